/- What a model does, as pure lists: no Go in sight. -/
import Derived.Test.YtecppcakgfohbabMRc
namespace Go.Proofs.Ytecppcakgfohbab
open Go.RowKit

theorem nodeF_add_same {k : Int} {h : Nat} {n : Int} : ∀ {H : List Hl}, (∀ y ∈ H, y.h ≠ h) → nodeF k h (H ++ [⟨k, h, n⟩]) = n
  | [], _ => by simp [nodeF]
  | y :: H, hf => by
    have h1 := hf y (List.mem_cons_self ..)
    show (if y.c = k ∧ y.h = h then y.n else nodeF k h (H ++ [⟨k, h, n⟩])) = n
    rw [if_neg (fun q => h1 q.2)]
    exact nodeF_add_same fun z hz => hf z (List.mem_cons_of_mem _ hz)
theorem nodeF_add_other {k k' : Int} {h q : Nat} {n : Int} (hne : ¬ (k = k' ∧ h = q)) : ∀ H : List Hl, nodeF k' q (H ++ [⟨k, h, n⟩]) = nodeF k' q H
  | [] => by simp [nodeF, hne]
  | y :: H => by
    show (if y.c = k' ∧ y.h = q then y.n else nodeF k' q (H ++ [⟨k, h, n⟩])) = if y.c = k' ∧ y.h = q then y.n else nodeF k' q H
    rw [nodeF_add_other hne H]
theorem heldF_add {k k' : Int} {h : Nat} {n : Int} : ∀ H : List Hl, heldF k' (H ++ [⟨k, h, n⟩]) = heldF k' H + if k = k' then 1 else 0
  | [] => by simp [heldF]
  | y :: H => by
    show (if y.c = k' then 1 else 0) + heldF k' (H ++ [⟨k, h, n⟩]) = (if y.c = k' then 1 else 0) + heldF k' H + _
    rw [heldF_add H]
    omega
/-- All holds but one. -/
def dropF (k : Int) (h : Nat) (H : List Hl) : List Hl := H.filter fun x => !(decide (x.c = k) && decide (x.h = h))
theorem dropF_cons {k : Int} {h : Nat} {y : Hl} {H : List Hl} : dropF k h (y :: H) = if y.c = k ∧ y.h = h then dropF k h H else y :: dropF k h H := by
  unfold dropF
  rw [List.filter_cons]
  by_cases hc : y.c = k ∧ y.h = h
  · rw [if_pos hc]
    simp [hc]
  · rw [if_neg hc]
    have : (!(decide (y.c = k) && decide (y.h = h))) = true := by
      simp only [Bool.not_eq_true', Bool.and_eq_false_iff, decide_eq_false_iff_not]
      by_cases h1 : y.c = k
      · exact .inr fun h2 => hc ⟨h1, h2⟩
      · exact .inl h1
    rw [if_pos this]
theorem nodeF_drop {k k' : Int} {h q : Nat} : ∀ H : List Hl, nodeF k' q (dropF k h H) = if k' = k ∧ q = h then -1 else nodeF k' q H
  | [] => by simp [dropF, nodeF]
  | y :: H => by
    rw [dropF_cons]
    by_cases hc : y.c = k ∧ y.h = h
    · rw [if_pos hc, nodeF_drop H]
      by_cases hk : k' = k ∧ q = h
      · rw [if_pos hk, if_pos hk]
      · rw [if_neg hk, if_neg hk]
        show _ = if y.c = k' ∧ y.h = q then y.n else nodeF k' q H
        rw [if_neg]
        intro ⟨h1, h2⟩
        exact hk ⟨by rw [← h1]; exact hc.1, by rw [← h2]; exact hc.2⟩
    · rw [if_neg hc]
      show (if y.c = k' ∧ y.h = q then y.n else nodeF k' q (dropF k h H)) = _
      rw [nodeF_drop H]
      by_cases hk : k' = k ∧ q = h
      · rw [if_pos hk, if_pos hk, if_neg]
        intro ⟨h1, h2⟩
        exact hc ⟨by rw [h1]; exact hk.1, by rw [h2]; exact hk.2⟩
      · rw [if_neg hk, if_neg hk]
        rfl
theorem dropF_none {k : Int} {h : Nat} : ∀ {H : List Hl}, (∀ y ∈ H, y.h ≠ h) → dropF k h H = H
  | [], _ => rfl
  | y :: H, hf => by
    rw [dropF_cons, if_neg (fun q => hf y (List.mem_cons_self ..) q.2), dropF_none fun z hz => hf z (List.mem_cons_of_mem _ hz)]
theorem heldF_drop2 {k k' : Int} {h : Nat} : ∀ {H : List Hl}, (H.map (·.h)).Nodup → (∃ y ∈ H, y.c = k ∧ y.h = h) → heldF k' (dropF k h H) + (if k = k' then 1 else 0) = heldF k' H
  | [], _, he => by obtain ⟨y, hy, _⟩ := he; cases hy
  | y :: H, hn, he => by
    simp only [List.map_cons, List.nodup_cons] at hn
    rw [dropF_cons]
    by_cases hc : y.c = k ∧ y.h = h
    · rw [if_pos hc, dropF_none (fun z hz hzh => hn.1 (by rw [hc.2, ← hzh]; exact List.mem_map.2 ⟨z, hz, rfl⟩))]
      show _ = (if y.c = k' then 1 else 0) + heldF k' H
      rw [hc.1]
      omega
    · rw [if_neg hc]
      show (if y.c = k' then 1 else 0) + heldF k' (dropF k h H) + _ = (if y.c = k' then 1 else 0) + heldF k' H
      have he' : ∃ z ∈ H, z.c = k ∧ z.h = h := by
        obtain ⟨z, hz, h1⟩ := he
        rcases List.mem_cons.1 hz with rfl | hz
        · exact absurd h1 hc
        · exact ⟨z, hz, h1⟩
      have := heldF_drop2 (k' := k') hn.2 he'
      omega
theorem nodeF_mem {k : Int} {h : Nat} : ∀ {H : List Hl}, 0 ≤ nodeF k h H → ∃ y ∈ H, y.c = k ∧ y.h = h
  | [], h0 => by simp [nodeF] at h0
  | y :: H, h0 => by
    by_cases hc : y.c = k ∧ y.h = h
    · exact ⟨y, List.mem_cons_self .., hc⟩
    · have e : nodeF k h (y :: H) = nodeF k h H := by show (if _ then _ else _) = _; rw [if_neg hc]
      rw [e] at h0
      obtain ⟨z, hz, h1⟩ := nodeF_mem h0
      exact ⟨z, List.mem_cons_of_mem _ hz, h1⟩
theorem nodeF_none {k : Int} {h : Nat} : ∀ {H : List Hl}, (∀ y ∈ H, y.h ≠ h) → nodeF k h H = -1
  | [], _ => rfl
  | y :: H, hf => by
    show (if y.c = k ∧ y.h = h then y.n else nodeF k h H) = -1
    rw [if_neg (fun q => hf y (List.mem_cons_self ..) q.2)]
    exact nodeF_none fun z hz => hf z (List.mem_cons_of_mem _ hz)
/-- What always holds of a state, with at most N of all. -/
structure Sx.Inv (N : Nat) (X : Sx) : Prop where
  ok : X.Ok
  nd : (X.H.map (·.h)).Nodup
  hG : ∀ x ∈ X.H, x.h ∈ X.G
  g0 : 0 ∉ X.G
  cl : ∀ x ∈ X.H, 0 ≤ x.c ∧ x.c < X.W.length
  nF : X.F.length ≤ N
  nH : X.H.length ≤ N
  nG : X.G.length ≤ N
  row : ∀ L ∈ X.F, L.length ≤ 8
  M2 : X.M.length = X.W.length
  com : ∀ L ∈ X.M, L.length ≤ N
  bG : ∀ h ∈ X.G, h < 18446744073709551616
  bW : ∀ h ∈ X.W, h < 18446744073709551616
theorem Sx.Inv.mono {N N' : Nat} {X : Sx} (h : X.Inv N) (hN : N ≤ N') : X.Inv N' :=
  ⟨h.ok, h.nd, h.hG, h.g0, h.cl, Nat.le_trans h.nF hN, Nat.le_trans h.nH hN, Nat.le_trans h.nG hN, h.row, h.M2, fun L hL => Nat.le_trans (h.com L hL) hN, h.bG, h.bW⟩
theorem Sx.Inv.fresh {N : Nat} {X : Sx} (h : X.Inv N) {q : Nat} (hq : q ∉ X.G) : ∀ y ∈ X.H, y.h ≠ q := fun y hy e => hq (e ▸ h.hG y hy)
theorem Sx.Inv.zero {N : Nat} {X : Sx} (h : X.Inv N) (k : Int) : nodeF k 0 X.H = -1 := nodeF_none (h.fresh h.g0)
theorem heldF_out {k : Int} : ∀ {H : List Hl}, (∀ x ∈ H, x.c ≠ k) → heldF k H = 0
  | [], _ => rfl
  | y :: H, hf => by
    show (if y.c = k then 1 else 0) + heldF k H = 0
    rw [if_neg (hf y (List.mem_cons_self ..)), heldF_out fun z hz => hf z (List.mem_cons_of_mem _ hz)]
theorem nodeF_out {k : Int} {q : Nat} : ∀ {H : List Hl}, (∀ x ∈ H, x.c ≠ k) → nodeF k q H = -1
  | [], _ => rfl
  | y :: H, hf => by
    show (if y.c = k ∧ y.h = q then y.n else nodeF k q H) = -1
    rw [if_neg (fun p => hf y (List.mem_cons_self ..) p.1)]
    exact nodeF_out fun z hz => hf z (List.mem_cons_of_mem _ hz)
end Go.Proofs.Ytecppcakgfohbab
