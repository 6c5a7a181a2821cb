/- Clones: of slices and of maps. -/
import Derived.Test.YtcccmmhpingmnaaVC
import Derived.Shelf.Lay
import Derived.Shelf.SlicesE.Clone
import Derived.Shelf.SlMaps.Clone
import Derived.Ground.SlgnProg
import Derived.Ground.SlmcProg
namespace Go.Proofs
open Go.Shelf
shelf_lay_g SlLaysE0.n41 Slgn 41 at Try 44 as Try.cloneR
shelf_lay_g SlLaysE0.n41 Slgn 41 at Try 45 as Try.cloneC
shelf_lay_g SlLaysE0.n41 Slgn 41 at Try 47 as Try.cloneI
shelf_lay_g SlLaysW.n5 Slmc 5 at Try 46 as Try.cloneG
shelf_lay_g SlLaysW.n5 Slmc 5 at Try 48 as Try.cloneH
end Go.Proofs
namespace Go.Proofs.Ytcccmmhpingmnaa
open Go.RowKit Go.Shelf
theorem infoR : (Try.prog.info? 57).map (fun i => (i.zero, i.size, i.bytes)) = some (some (.slice none 0 0), 1, 24) := by kernel_rfl
theorem infoC : (Try.prog.info? 72).map (fun i => (i.zero, i.size, i.bytes)) = some (some (.agg #[.map none, .int .u64 0, .slice none 0 0]), 3, 40) := by kernel_rfl

/-- A slice of ints cloned. -/
theorem clone_Z {w : World} {v : Value} {xs : List Int} (h : IsZ w v xs) (hl : xs.length ≤ 1000000) :
    Calls Try.prog 47 #[v] w fun r w' => ∃ v', r = .returned v' ∧ IsZ w' v' xs ∧ (∀ g, v'.ownBlock = some g → w.heap.size ≤ g) ∧ Below w.heap.size w w' := by
  rcases h with ⟨rfl, rfl⟩ | ⟨g, off, cap, cur, rfl, hh, h2, h3, h4, hc⟩
  · have c : Calls Try.prog 47 #[.slice none 0 0] w fun r w' => r = .returned (.slice none 0 0) ∧ w' = w := AnyE.slices_Clone_nil Try.cloneI 0 0 w
    refine c.mono ?_
    rintro r w' ⟨rfl, rfl⟩
    exact ⟨_, rfl, IsZ.nil _, fun g hg => (by cases hg), Below.refl _ _⟩
  · obtain ⟨i0, hi, hz0, hz1, hz2⟩ := info_parts Try.info3
    have hcell : ∀ j u, (ints xs)[j]? = some u → w.cell? ⟨g, off + j, none⟩ = some u := by
      intro j u hj
      have hjl : j < xs.length := by
        have := (List.getElem?_eq_some_iff.1 hj).1
        rwa [ints_len] at this
      rw [ints_get xs j hjl] at hj
      simp only [World.cell?, hh, hc j hjl]
      exact hj
    have c : Calls Try.prog 47 #[.slice (some ⟨g, off, none⟩) xs.length cap] w fun r w' => ∃ v', r = .returned v' ∧ w'.ownsRow w.heap.size 3 1 v' xs.length (ints xs) ∧ v' ≠ .slice none 0 0 ∧ Below w.heap.size w w' :=
      AnyE.slices_Clone Try.cloneI i0 (.int .i64 0) 1 8 hi hz0 hz1 hz2 rfl (by decide) Try.sizeOf3 g off xs.length cap (ints xs) w (by rw [ints_len]; omega) (by unfold maxLen; omega) (by omega) hcell (ints_one xs)
    refine c.mono ?_
    rintro r w' ⟨v', rfl, ho, _, hb⟩
    obtain ⟨q1, q2⟩ := IsZ.of_own ho rfl
    exact ⟨v', rfl, q1, q2, hb⟩
/-- The rows' slices cloned. -/
theorem clone_rows {w : World} {v : Value} {n : Nat} {rows : List Value} (h : w.ownsRow 0 57 1 v n rows) (hn : n ≤ 1000000) (h1 : ∀ u ∈ rows, u.oneCell' = true) :
    Calls Try.prog 44 #[v] w fun r w' => ∃ v', r = .returned v' ∧ w'.ownsRow w.heap.size 57 1 v' n rows ∧ Below w.heap.size w w' := by
  have hlen := h.1
  rcases h.2 with ⟨rfl, rfl⟩ | ⟨g, cap, cur, rfl, hb, hg, h2, h3, h4, h5⟩
  · have c : Calls Try.prog 44 #[.slice none 0 0] w fun r w' => r = .returned (.slice none 0 0) ∧ w' = w := AnyE.slices_Clone_nil Try.cloneR 0 0 w
    refine c.mono ?_
    rintro r w' ⟨rfl, rfl⟩
    obtain rfl : rows = [] := List.eq_nil_of_length_eq_zero (by simpa using hlen)
    exact ⟨_, rfl, World.ownsRow_nil _ _ _ _, Below.refl _ _⟩
  · obtain ⟨i0, hi, hz0, hz1, hz2⟩ := info_parts infoR
    have hcell : ∀ j u, rows[j]? = some u → w.cell? ⟨g, 0 + j, none⟩ = some u := by
      intro j u hj
      have := h.cells (g := g) rfl j u hj
      rw [Addr.add_lit] at this
      exact this
    have c : Calls Try.prog 44 #[.slice (some ⟨g, 0, none⟩) n cap] w fun r w' => ∃ v', r = .returned v' ∧ w'.ownsRow w.heap.size 57 1 v' n rows ∧ v' ≠ .slice none 0 0 ∧ Below w.heap.size w w' :=
      AnyE.slices_Clone Try.cloneR i0 (.slice none 0 0) 1 24 hi hz0 hz1 hz2 rfl (by decide) Try.sizeOf57 g 0 n cap rows w hlen (by unfold maxLen; omega) (by omega) hcell h1
    refine c.mono ?_
    rintro r w' ⟨v', rfl, ho, _, hb⟩
    exact ⟨v', rfl, ho, hb⟩
/-- The clients cloned. -/
theorem clone_clients {w : World} {b c cap : Nat} {x : Array Value} {bk : Nat → Nat} {ck : Nat → Value} {wk : Nat → Nat} (h : w.heap[b]? = some (.cells (clC x bk ck wk c) 72 (0, 0))) (hc0 : 0 < c) (hc8 : c ≤ 8) (h1 : ∀ k, k < c → (ck k).oneCell' = true) :
    Calls Try.prog 45 #[.slice (some ⟨b, 0, none⟩) c cap] w fun r w' => ∃ b' cap' x', r = .returned (.slice (some ⟨b', 0, none⟩) c cap') ∧ w'.heap[b']? = some (.cells (clC x' bk ck wk c) 72 (0, 0)) ∧ w.heap.size ≤ b' ∧ Below w.heap.size w w' := by
  obtain ⟨i0, hi, hz0, hz1, hz2⟩ := info_parts infoC
  have hat : ∀ q, q < 3 * c → (clC x bk ck wk c)[q]? = (clC #[] bk ck wk c)[q]? := fun q hq => by rw [clC_at, clC_at, if_pos hq, if_pos hq]
  have hsz : (clC #[] bk ck wk c).toList.length = 3 * c := by rw [Array.length_toList, clC_size]; simp
  have hcell : ∀ j u, (clC #[] bk ck wk c).toList[j]? = some u → w.cell? ⟨b, 0 + j, none⟩ = some u := by
    intro j u hj
    have hjl : j < 3 * c := by
      have := (List.getElem?_eq_some_iff.1 hj).1
      omega
    rw [Nat.zero_add]
    simp only [World.cell?, h]
    show (clC x bk ck wk c)[j]? = some u
    rw [hat j hjl, ← Array.getElem?_toList]
    exact hj
  have hone : ∀ u ∈ (clC #[] bk ck wk c).toList, u.oneCell' = true := by
    intro u hu
    obtain ⟨j, hj⟩ := List.getElem?_of_mem hu
    have hjl : j < 3 * c := by
      have := (List.getElem?_eq_some_iff.1 hj).1
      omega
    rw [Array.getElem?_toList, clC_at, if_pos hjl] at hj
    obtain rfl := Option.some.inj hj
    split
    · rfl
    · split
      · rfl
      · exact h1 _ (by omega)
  have cc : Calls Try.prog 45 #[.slice (some ⟨b, 0, none⟩) c cap] w fun r w' => ∃ v', r = .returned v' ∧ w'.ownsRow w.heap.size 72 3 v' c (clC #[] bk ck wk c).toList ∧ v' ≠ .slice none 0 0 ∧ Below w.heap.size w w' :=
    AnyE.slices_Clone Try.cloneC i0 (.agg #[.map none, .int .u64 0, .slice none 0 0]) 3 40 hi hz0 hz1 hz2 rfl (by decide) Try.sizeOf72 b 0 c cap (clC #[] bk ck wk c).toList w (by rw [hsz]; omega) (by unfold maxLen; omega) (by omega) hcell hone
  refine cc.mono ?_
  rintro r w' ⟨v', rfl, ho, hne, hb⟩
  rcases ho.2 with ⟨rfl, e⟩ | ⟨g, cap', cur, rfl, hbg, hg, h2, h3, h4, h5⟩
  · omega
  · refine ⟨g, cap', cur.extract (3 * c) cur.size, rfl, ?_, hbg, hb⟩
    rw [hg]
    congr 2
    apply Array.ext_getElem?
    intro q
    by_cases hq : q < 3 * c
    · have e := congrArg (fun l => l[q]?) h5
      simp only [List.getElem?_take, Array.getElem?_toList] at e
      rw [if_pos (by omega)] at e
      rw [e, clC_at, clC_at, if_pos hq, if_pos hq]
    · rw [clC_at, if_neg hq, Array.getElem?_extract]
      split
      · congr 1; omega
      · rw [Array.getElem?_eq_none (by omega)]
/-- The maps cloned. -/
theorem clone_held {w : World} {b n : Nat} {k : Int} {H : List Hl} (h : IsHd w b n k H) :
    Calls Try.prog 48 #[.map (some b)] w fun r w' => r = .returned (.map (some w.heap.size)) ∧ IsHd w' w.heap.size n k H ∧ ∃ o, w' = w.alloc o := by
  obtain ⟨D, ⟨es, cl, h1, h2⟩, h3⟩ := h
  have c : Calls Try.prog 48 #[.map (some b)] w fun r w' => r = .returned (.map (some w.heap.size)) ∧ w' = w.alloc (.map es cl) := AnyW.maps_Clone Try.cloneH b es cl w h1
  refine c.mono ?_
  rintro r w' ⟨rfl, rfl⟩
  exact ⟨rfl, ⟨D, ⟨es, cl, new_obj _ _, h2⟩, h3⟩, _, rfl⟩
theorem clone_given {w : World} {b n : Nat} {G : List Nat} (h : IsGv w b n G) :
    Calls Try.prog 46 #[.map (some b)] w fun r w' => r = .returned (.map (some w.heap.size)) ∧ IsGv w' w.heap.size n G ∧ ∃ o, w' = w.alloc o := by
  obtain ⟨D, ⟨es, cl, h1, h2⟩, h3⟩ := h
  have c : Calls Try.prog 46 #[.map (some b)] w fun r w' => r = .returned (.map (some w.heap.size)) ∧ w' = w.alloc (.map es cl) := AnyW.maps_Clone Try.cloneG b es cl w h1
  refine c.mono ?_
  rintro r w' ⟨rfl, rfl⟩
  exact ⟨rfl, ⟨D, ⟨es, cl, new_obj _ _, h2⟩, h3⟩, _, rfl⟩
end Go.Proofs.Ytcccmmhpingmnaa
