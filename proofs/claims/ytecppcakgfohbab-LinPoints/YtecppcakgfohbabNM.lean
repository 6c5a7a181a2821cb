/- A node more: bare rows, and the model behind it. -/
import Derived.Test.YtecppcakgfohbabNL
import Derived.Deep.OwnRows
namespace Go.Proofs.Ytecppcakgfohbab
open Go.RowKit

/-- A row of which some first fields name none. -/
def bareA (i n : Nat) : Array Value := Array.ofFn (n := n) fun j => if j.1 < i then Value.int .i64 (-1) else Value.int .i64 0
theorem bareA_at (i n j : Nat) : (bareA i n)[j]? = if j < n then some (if j < i then Value.int .i64 (-1) else Value.int .i64 0) else none := by
  unfold bareA
  rw [Array.getElem?_ofFn]
  by_cases h : j < n
  · rw [dif_pos h, if_pos h]
  · rw [dif_neg h, if_neg h]
theorem bareA_size (i n : Nat) : (bareA i n).size = n := by simp [bareA]
theorem bareA_made (n : Nat) : madeCells #[.int .i64 0] n = bareA 0 n := by
  apply Array.ext_getElem?
  intro j
  rw [bareA_at]
  by_cases hj : j < n
  · simp [madeCells, hj, Nat.mod_one]
  · simp [madeCells, hj]
theorem bareA_get {i n : Nat} (h : i < n) : (bareA i n)[i]? = some (.int .i64 0) := by
  rw [bareA_at, if_pos h, if_neg (Nat.lt_irrefl _)]
theorem bareA_set {i n : Nat} (h : i < n) : (bareA i n).setIfInBounds i (.int .i64 (-1)) = bareA (i + 1) n := by
  apply Array.ext_getElem?
  intro j
  rw [Array.getElem?_setIfInBounds, bareA_at, bareA_at, bareA_size]
  by_cases hj : i = j
  · subst hj
    rw [if_pos rfl, if_pos h, if_pos h, if_pos (by omega)]
  · rw [if_neg hj]
    by_cases hn : j < n
    · rw [if_pos hn, if_pos hn]
      by_cases hi : j < i
      · rw [if_pos hi, if_pos (by omega)]
      · rw [if_neg hi, if_neg (by omega)]
    · rw [if_neg hn, if_neg hn]
set_option maxRecDepth 100000 in
set_option maxHeartbeats 2000000 in
theorem bare_any (n : Nat) (hn : n ≤ 1000) (w : World) :
    Calls Try.prog 69 #[.int .i64 (n : Nat)] w fun r w' => r = .returned (.slice (some ⟨w.heap.size, 0, none⟩) n n) ∧ w'.heap[w.heap.size]? = some (.cells (bareA n n) 3 (0, 0)) ∧ Below w.heap.size w w' := by
  have hmk : ∀ wr, (Instr.makeSlice 25 (.int .i64 (n : Nat)) (.int .i64 (n : Nat))).run Try.prog wr = .ok (.slice (some ⟨wr.heap.size, 0, none⟩) n n) (wr.alloc (.cells (bareA 0 n) 3)) := fun wr => by
    rw [← bareA_made]
    exact run_make_row' 25 3 (.int .i64 0) 8 Try.underlying25 Try.info3 rfl .i64 .i64 n (by omega) (by omega) wr
  have hg := new_obj w (.cells (bareA 0 n) 3)
  have bel := alloc_below w (.cells (bareA 0 n) 3)
  go_enter Try.func69, Try.ntmps69
  go_upto_region 3 with fail
  generalize World.alloc _ _ = w1 at *
  generalize hS : w.heap.size = g at hg ⊢
  replace hS := hid1 hS
  clear hmk
  go_loopw [9] (fun i wr => ∃ (j : Nat), j ≤ n ∧ i = .int .i64 j ∧ wr.heap[g]? = some (.cells (bareA j n) 3 (0, 0)) ∧ Below w.heap.size w wr) (fun i _ => n - (intOf i).toNat)
  case atStart => exact ⟨0, Nat.zero_le _, rfl, hg, bel⟩
  case round =>
    clear hg bel
    obtain ⟨j, hj, rfl, hg, bel⟩ := hrel
    by_cases hl : j < n
    · rename_i wr
      have hl1 : (j : Int) < (n : Int) := by omega
      have hl0 : (0 : Int) ≤ (j : Int) := by omega
      have e3 : IntKind.i64.wrap ((j : Int) + 1) = ((j + 1 : Nat) : Int) := by rw [IntKind.wrap_i64]; omega
      have z0 : World.cell? wr ⟨g, j, none⟩ = some (.int .i64 0) := by simp only [World.cell?, hg]; exact bareA_get hl
      have fz := cells_free hg j
      have hg2 := heap_put (o := j) hg (.int .i64 (-1))
      rw [bareA_set hl] at hg2
      have bel2 := bel.setCell (p := ⟨g, j, none⟩) (by have := hS.out; show w.heap.size ≤ g; omega) (.int .i64 (-1))
      generalize hk2 : j + 1 = j2 at *
      replace hk2 := hid1 hk2
      clear hg bel
      go_wp2
      go_roundw
      case rel => exact ⟨j2, by have := hk2.out; omega, rfl, hg2, bel2⟩
      case measure => (have := hk2.out; simp [intOf]; omega)
    · obtain rfl : j = n := by omega
      have hl1 : ¬ (j : Int) < (j : Int) := by omega
      go_wp2
      go_ret
      exact ⟨by rw [hS.out]; rfl, by rw [hS.out]; exact hg, bel⟩
theorem bare_z {w : World} {g n : Nat} (h : w.heap[g]? = some (.cells (bareA n n) 3 (0, 0))) (hn : n ≤ 1000) : IsZ w (.slice (some ⟨g, 0, none⟩) n n) (List.replicate n (-1)) := by
  refine .inr ⟨g, 0, n, bareA n n, by rw [List.length_replicate], h, by simp, by unfold maxLen; omega, by rw [bareA_size]; omega, fun i hi => ?_⟩
  rw [List.length_replicate] at hi
  rw [Nat.zero_add, bareA_at, if_pos hi, if_pos hi, List.getD_eq_getElem?_getD, List.getElem?_replicate, if_pos hi]
  rfl
/-- A node's row is appended. -/
theorem MdOk.push {w w' : World} {B : Nat} {L L' : Nat → Prop} {C : Cg} {n : Nat} {X : Sx} {m : Md} (h : MdOk w B L C n X m) {r v' : Value} {K : List Int} (hz : IsZ w r K) {gr : Nat} (hgr : r.ownBlock = some gr)
    (hf : (∀ r' ∈ m.rows, r'.ownBlock ≠ some gr) ∧ ∀ k, k < C.c → (m.ck k).ownBlock ≠ some gr)
    (own : w'.ownsRow 0 25 1 v' (X.F.length + 1) (m.rows ++ [r])) (gw : w.grownBy w' m.vN.ownBlock) (hL : ∀ i, L i → L' i) (hLr : L' gr) (hLv : ∀ g, v'.ownBlock = some g → L' g) :
    MdOk (w'.setCell ⟨B, 6, none⟩ v') B L' C n { X with F := X.F ++ [K] } { m with vN := v', rows := m.rows ++ [r] } := by
  have nov : ∀ (j : Nat) (c : Array Value) (t : TypeId) (f : Nat × Nat), w.heap[j]? = some (.cells c t f) → t ≠ 25 → w'.heap[j]? = w.heap[j]? := fun j c t f hj ht => gw.block j (lt_of_block hj) fun e => by
    obtain ⟨c', hc⟩ := own_cells h.nodes e.symm
    exact ne_cells hj hc ht rfl
  have nom : ∀ j, (∃ (es : Array MapEntry) (c : Nat), w.heap[j]? = some (Obj.map es c)) → w'.heap[j]? = w.heap[j]? := fun j hj => gw.block j (by obtain ⟨es, c, hj⟩ := hj; exact lt_of_block hj) fun e => by
    obtain ⟨c', hc⟩ := own_cells h.nodes e.symm
    exact ne_map hc hj rfl
  have hB := (nov _ _ _ _ h.head (by decide)).trans h.head
  have st : ∀ (j : Nat), j ≠ B → (w'.setCell ⟨B, 6, none⟩ v').heap[j]? = w'.heap[j]? := fun j hj => Below.heap_setCell _ _ _ _ hj
  have keepZ : ∀ (vv : Value) (xs : List Int), IsZ w vv xs → IsZ (w'.setCell ⟨B, 6, none⟩ v') vv xs := fun vv xs hz => hz.kept fun q hq => by
    obtain ⟨c, hc⟩ := hz.cells hq
    have e1 := nov _ _ _ _ hc (by decide)
    exact (st q (fun e => ne_cells (e1.trans hc) hB (by decide) e)).trans e1
  have mapS : ∀ j, (∃ (es : Array MapEntry) (c : Nat), w.heap[j]? = some (Obj.map es c)) → (w'.setCell ⟨B, 6, none⟩ v').heap[j]? = w.heap[j]? := fun j hj => by
    have e1 := nom j hj
    refine (st j fun e => ?_).trans e1
    obtain ⟨es, c, hj⟩ := hj
    rw [← e1, e, hB] at hj
    cases hj
  have hrl : m.rows.length = X.F.length := by have := h.nodes.1; omega
  exact {
    nc := h.nc
    head := by
      have := heap_put (o := 6) hB v'
      simpa using this
    cl := by
      have e1 := nov _ _ _ _ h.cl (by decide)
      exact (st _ (fun e => ne_cells (e1.trans h.cl) hB (by decide) e)).trans (e1.trans h.cl)
    nodes := by
      show World.ownsRow _ 0 _ 1 v' (X.F ++ [K]).length _
      rw [List.length_append, List.length_cons, List.length_nil]
      exact own_kept own fun q hq => by obtain ⟨c, hc⟩ := own_cells own hq; exact st q (ne_cells hc hB (by decide))
    row := fun j K' r' hK hr => by
      have hK' : (X.F ++ [K])[j]? = some K' := hK
      by_cases hj : j < X.F.length
      · rw [List.getElem?_append_left hj] at hK'
        rw [List.getElem?_append_left (by omega)] at hr
        exact keepZ _ _ (h.row j K' r' hK' hr)
      · have hj2 : j = X.F.length := by have := (List.getElem?_eq_some_iff.1 hK').1; simp at this; omega
        subst hj2
        rw [List.getElem?_append_right (by omega)] at hK' hr
        simp [hrl] at hK' hr
        subst hK' hr
        exact keepZ _ _ hz
    dis := fun i j r1 r2 g h1 h2 h3 h4 => by
      have h1' : (m.rows ++ [r])[i]? = some r1 := h1
      have h2' : (m.rows ++ [r])[j]? = some r2 := h2
      have cut : ∀ (q : Nat) (rr : Value), (m.rows ++ [r])[q]? = some rr → (q < m.rows.length ∧ m.rows[q]? = some rr) ∨ (q = m.rows.length ∧ rr = r) := fun q rr hq => by
        by_cases hlt : q < m.rows.length
        · rw [List.getElem?_append_left hlt] at hq; exact .inl ⟨hlt, hq⟩
        · have : q = m.rows.length := by have := (List.getElem?_eq_some_iff.1 hq).1; simp at this; omega
          subst this
          simp at hq
          exact .inr ⟨rfl, hq.symm⟩
      rcases cut i r1 h1' with ⟨a1, a2⟩ | ⟨a1, a2⟩ <;> rcases cut j r2 h2' with ⟨b1, b2⟩ | ⟨b1, b2⟩
      · exact h.dis i j r1 r2 g a2 b2 h3 h4
      · subst b2
        rw [hgr] at h4
        exact absurd (h3.trans h4.symm) (hf.1 r1 (List.mem_of_getElem? a2))
      · subst a2
        rw [hgr] at h3
        exact absurd (h4.trans h3.symm) (hf.1 r2 (List.mem_of_getElem? b2))
      · omega
    hs := fun k hk => (h.hs k hk).kept (mapS _ (h.hs k hk).map)
    gv := h.gv.kept (mapS _ h.gv.map)
    ms := fun k hk => keepZ _ _ (h.ms k hk)
    d0 := fun r' hr' g hg => by
      have hr2 : r' ∈ m.rows ++ [r] := hr'
      rcases List.mem_append.1 hr2 with q | q
      · exact h.d0 r' q g hg
      · obtain rfl := List.mem_singleton.1 q
        rw [hgr] at hg
        obtain rfl := Option.some.inj hg
        exact hf.2
    mb := h.mb
    LB := ⟨hL _ h.LB.1, hL _ h.LB.2.1, fun k hk => hL _ (h.LB.2.2.1 k hk), hL _ h.LB.2.2.2⟩
    LN := hLv
    LR := fun r' hr' g hg => by
      have hr2 : r' ∈ m.rows ++ [r] := hr'
      rcases List.mem_append.1 hr2 with q | q
      · exact hL _ (h.LR r' q g hg)
      · obtain rfl := List.mem_singleton.1 q
        rw [hgr] at hg
        obtain rfl := Option.some.inj hg
        exact hLr
    LM := fun k hk g hg => hL _ (h.LM k hk g hg) }
end Go.Proofs.Ytecppcakgfohbab
