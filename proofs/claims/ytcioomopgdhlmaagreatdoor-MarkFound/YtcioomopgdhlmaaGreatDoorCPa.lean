/- What can be found, by two searches; no program in sight. -/
import Derived.RowKit
namespace Go.Proofs.YtcioomopgdhlmaaGreatDoor

/-- A heap as the searches see it: which slots can be found, are marked, are gray; what is held; what names what. -/
structure Gp where
  S : Nat
  can : Nat → Bool
  m0 : Nat → Bool
  g : Nat → Bool
  rt : Nat → Prop
  nam : Nat → Nat → Prop
structure Gp.Ok (G : Gp) : Prop where
  rt : ∀ s, G.rt s → s < G.S
  nam : ∀ t s, G.nam t s → s < G.S
  can : ∀ s, G.can s = true → G.m0 s = false
inductive Rch (G : Gp) : Nat → Prop
  | root (s : Nat) : G.rt s → G.can s = true → Rch G s
  | gray (u s : Nat) : u < G.S → G.g u = true → G.nam u s → G.can s = true → Rch G s
  | next (t s : Nat) : Rch G t → G.nam t s → G.can s = true → Rch G s
theorem Rch.can {G : Gp} {s : Nat} (h : Rch G s) : G.can s = true := by cases h <;> assumption
theorem Rch.lt {G : Gp} (hG : G.Ok) {s : Nat} (h : Rch G s) : s < G.S := by
  cases h with
  | root _ h _ => exact hG.rt _ h
  | gray u _ _ _ h _ => exact hG.nam _ _ h
  | next t _ _ h _ => exact hG.nam _ _ h

def upB (M : Nat → Bool) (x : Nat) : Nat → Bool := fun s => if s = x then true else M s
theorem upB_at (M : Nat → Bool) (x : Nat) : upB M x x = true := by unfold upB; rw [if_pos rfl]
theorem upB_of {M : Nat → Bool} {x s : Nat} (h : M s = true) : upB M x s = true := by unfold upB; split <;> simp [h]
theorem upB_ne {M : Nat → Bool} {x s : Nat} (h : s ≠ x) : upB M x s = M s := by unfold upB; rw [if_neg h]

/-- What the program's search knows: what is to be found, what waits, what is marked. -/
structure Pi (G : Gp) (F : List Int) (W : List Nat) (M : Nat → Bool) : Prop where
  s1 : ∀ s, M s = true → G.m0 s = true ∨ Rch G s
  s2 : ∀ s, G.m0 s = true → M s = true
  f : ∀ s : Nat, (s : Int) ∈ F → G.can s = true → Rch G s
  fr : ∀ x ∈ F, -1 ≤ x ∧ x < G.S
  w : ∀ t ∈ W, ∀ s, G.nam t s → G.can s = true → Rch G s
  wS : ∀ t ∈ W, t < G.S ∧ (G.can t = true ∨ G.g t = true)
  r : ∀ s, G.rt s → G.can s = true → M s = true ∨ (s : Int) ∈ F
  c : ∀ t, t < G.S → (G.g t = true ∨ (M t = true ∧ G.m0 t = false)) → t ∈ W ∨ ∀ s, G.nam t s → G.can s = true → M s = true ∨ (s : Int) ∈ F
theorem Pi.start {G : Gp} {F : List Int} {W : List Nat} (hF : ∀ s : Nat, (s : Int) ∈ F ↔ G.rt s) (hr : ∀ x ∈ F, -1 ≤ x ∧ x < G.S) (hW : ∀ t, t ∈ W ↔ t < G.S ∧ G.g t = true) : Pi G F W G.m0 where
  s1 := fun s h => .inl h
  s2 := fun s h => h
  f := fun s h hc => .root s ((hF s).1 h) hc
  fr := hr
  w := fun t ht s hn hc => by obtain ⟨h1, h2⟩ := (hW t).1 ht; exact .gray t s h1 h2 hn hc
  wS := fun t ht => by obtain ⟨h1, h2⟩ := (hW t).1 ht; exact ⟨h1, .inr h2⟩
  r := fun s hs _ => .inr ((hF s).2 hs)
  c := fun t ht h => by
    rcases h with h | ⟨h1, h2⟩
    · exact .inl ((hW t).2 ⟨ht, h⟩)
    · rw [h1] at h2; cases h2
theorem Pi.skip {G : Gp} {x : Int} {F : List Int} {W : List Nat} {M : Nat → Bool} (h : Pi G (x :: F) W M) (hx : x = -1 ∨ (∃ n : Nat, x = n ∧ (M n = true ∨ G.can n = false))) : Pi G F W M := by
  have key : ∀ s : Nat, G.can s = true → (M s = true ∨ (s : Int) ∈ x :: F) → M s = true ∨ (s : Int) ∈ F := by
    intro s hc hs
    rcases hs with hs | hs
    · exact .inl hs
    · rcases List.mem_cons.1 hs with e | hs
      · rcases hx with hx | ⟨n, hx, hn⟩
        · omega
        · obtain rfl : s = n := by omega
          rcases hn with hn | hn
          · exact .inl hn
          · rw [hc] at hn; cases hn
      · exact .inr hs
  exact ⟨h.s1, h.s2, fun s hs => h.f s (List.mem_cons_of_mem _ hs), fun y hy => h.fr y (List.mem_cons_of_mem _ hy), h.w, h.wS, fun s hs hc => key s hc (h.r s hs hc), fun t ht hh => (h.c t ht hh).imp id fun q s hn hc => key s hc (q s hn hc)⟩
theorem Pi.take {G : Gp} {n : Nat} {F : List Int} {W : List Nat} {M : Nat → Bool} (h : Pi G ((n : Int) :: F) W M) (hc : G.can n = true) : Pi G F (W ++ [n]) (upB M n) := by
  have hr : Rch G n := h.f n (List.mem_cons_self ..) hc
  have hlt : n < G.S := by have := (h.fr n (List.mem_cons_self ..)).2; omega
  have key : ∀ s : Nat, (M s = true ∨ (s : Int) ∈ (n : Int) :: F) → upB M n s = true ∨ (s : Int) ∈ F := by
    intro s hs
    rcases hs with hs | hs
    · exact .inl (upB_of hs)
    · rcases List.mem_cons.1 hs with e | hs
      · obtain rfl : s = n := by omega
        exact .inl (upB_at M s)
      · exact .inr hs
  refine ⟨?_, fun s hs => upB_of (h.s2 s hs), fun s hs => h.f s (List.mem_cons_of_mem _ hs), fun y hy => h.fr y (List.mem_cons_of_mem _ hy), ?_, ?_, fun s hs hc' => key s (h.r s hs hc'), ?_⟩
  · intro s hs
    by_cases e : s = n
    · subst e; exact .inr hr
    · rw [upB_ne e] at hs; exact h.s1 s hs
  · intro t ht s hn hc'
    rcases List.mem_append.1 ht with ht | ht
    · exact h.w t ht s hn hc'
    · obtain rfl : t = n := by simpa using ht
      exact .next t s hr hn hc'
  · intro t ht
    rcases List.mem_append.1 ht with ht | ht
    · exact h.wS t ht
    · obtain rfl : t = n := by simpa using ht
      exact ⟨hlt, .inl hc⟩
  · intro t ht hh
    by_cases e : t = n
    · subst e; exact .inl (by simp)
    · rw [upB_ne e] at hh
      rcases h.c t ht hh with q | q
      · exact .inl (by simp [q])
      · exact .inr fun s hn hc' => key s (q s hn hc')
theorem Pi.pop {G : Gp} {F' : List Int} {W : List Nat} {t : Nat} {M : Nat → Bool} (h : Pi G [] (W ++ [t]) M) (hF : ∀ s : Nat, (s : Int) ∈ F' ↔ G.nam t s) (hr : ∀ x ∈ F', -1 ≤ x ∧ x < G.S) : Pi G F' W M := by
  refine ⟨h.s1, h.s2, fun s hs hc => h.w t (by simp) s ((hF s).1 hs) hc, hr, fun u hu => h.w u (by simp [hu]), fun u hu => h.wS u (by simp [hu]), fun s hs hc => (h.r s hs hc).imp id fun q => by simp at q, ?_⟩
  intro u hu hh
  rcases h.c u hu hh with q | q
  · rcases List.mem_append.1 q with q | q
    · exact .inl q
    · obtain rfl : u = t := by simpa using q
      exact .inr fun s hn _ => .inr ((hF s).2 hn)
  · exact .inr fun s hn hc => (q s hn hc).imp id fun q => by simp at q
theorem Pi.fin {G : Gp} (hG : G.Ok) {M : Nat → Bool} (h : Pi G [] [] M) (s : Nat) : M s = true ↔ (G.m0 s = true ∨ Rch G s) := by
  have hn : ∀ {p : Prop} {x : Int}, (p ∨ x ∈ ([] : List Int)) → p := fun q => q.elim id fun q => by simp at q
  have hw : ∀ {p : Prop} {x : Nat}, (x ∈ ([] : List Nat) ∨ p) → p := fun q => q.elim (fun q => by simp at q) id
  refine ⟨h.s1 s, fun q => ?_⟩
  rcases q with q | q
  · exact h.s2 s q
  · induction q with
    | root s h1 h2 => exact hn (h.r s h1 h2)
    | gray u s h1 h2 h3 h4 => exact hn (hw (h.c u h1 (.inl h2)) s h3 h4)
    | next t s h1 h2 h3 ih => exact hn (hw (h.c t (h1.lt hG) (.inr ⟨ih, hG.can t h1.can⟩)) s h2 h3)

/-- What the reference's search knows. -/
structure Ri (G : Gp) (k : Nat) (L : List Nat) (Fd Th : Nat → Bool) : Prop where
  s1 : ∀ s, Fd s = true → G.m0 s = true ∨ Rch G s
  s2 : ∀ s, G.m0 s = true → Fd s = true
  l : ∀ s ∈ L, G.can s = true → Rch G s
  lS : ∀ s ∈ L, s < G.S
  p : ∀ i, i < k → ∀ s, L[i]? = some s → G.can s = true → Fd s = true
  rt : ∀ s, G.rt s → s ∈ L
  th : ∀ t, t < G.S → Th t = true → ∀ s, G.nam t s → s ∈ L
  gr : ∀ t, t < G.S → G.g t = true → Th t = true
  ft : ∀ t, Fd t = true → G.m0 t = false → Th t = true
theorem Ri.start {G : Gp} (hG : G.Ok) {L : List Nat} {Th : Nat → Bool} (hL : ∀ s, s ∈ L ↔ G.rt s ∨ ∃ u, u < G.S ∧ G.g u = true ∧ G.nam u s) (hT : ∀ t, t < G.S → Th t = G.g t) : Ri G 0 L G.m0 Th where
  s1 := fun s h => .inl h
  s2 := fun s h => h
  l := fun s hs hc => by
    rcases (hL s).1 hs with q | ⟨u, h1, h2, h3⟩
    · exact .root s q hc
    · exact .gray u s h1 h2 h3 hc
  lS := fun s hs => by
    rcases (hL s).1 hs with q | ⟨u, h1, h2, h3⟩
    · exact hG.rt s q
    · exact hG.nam u s h3
  p := fun i hi => absurd hi (by omega)
  rt := fun s hs => (hL s).2 (.inl hs)
  th := fun t ht h s hn => (hL s).2 (.inr ⟨t, ht, by rw [← hT t ht]; exact h, hn⟩)
  gr := fun t ht h => by rw [hT t ht]; exact h
  ft := fun t h1 h2 => by rw [h1] at h2; cases h2
theorem Ri.skip {G : Gp} {k : Nat} {L : List Nat} {Fd Th : Nat → Bool} {s : Nat} (h : Ri G k L Fd Th) (hk : L[k]? = some s) (hs : G.can s = true → Fd s = true) : Ri G (k + 1) L Fd Th :=
  ⟨h.s1, h.s2, h.l, h.lS, fun i hi t ht hc => by
    by_cases e : i = k
    · subst e; rw [hk] at ht; obtain rfl : s = t := by simpa using ht
      exact hs hc
    · exact h.p i (by omega) t ht hc, h.rt, h.th, h.gr, h.ft⟩
theorem Ri.had {G : Gp} {k : Nat} {L : List Nat} {Fd Th : Nat → Bool} {s : Nat} (h : Ri G k L Fd Th) (hk : L[k]? = some s) (hc : G.can s = true) (ht : Th s = true) : Ri G (k + 1) L (upB Fd s) Th := by
  have hr : Rch G s := h.l s (List.mem_of_getElem? hk) hc
  refine ⟨?_, fun t q => upB_of (h.s2 t q), h.l, h.lS, ?_, h.rt, h.th, h.gr, ?_⟩
  · intro t q
    by_cases e : t = s
    · subst e; exact .inr hr
    · rw [upB_ne e] at q; exact h.s1 t q
  · intro i hi t q hc'
    by_cases e : i = k
    · subst e; rw [hk] at q; obtain rfl : s = t := by simpa using q
      exact upB_at _ _
    · exact upB_of (h.p i (by omega) t q hc')
  · intro t q hm
    by_cases e : t = s
    · subst e; exact ht
    · rw [upB_ne e] at q; exact h.ft t q hm
theorem Ri.take {G : Gp} (hG : G.Ok) {k : Nat} {L L' : List Nat} {Fd Th : Nat → Bool} {s : Nat} (h : Ri G k L Fd Th) (hk : L[k]? = some s) (hc : G.can s = true) (hL : ∀ x, x ∈ L' ↔ G.nam s x) : Ri G (k + 1) (L ++ L') (upB Fd s) (upB Th s) := by
  have hr : Rch G s := h.l s (List.mem_of_getElem? hk) hc
  have hlt : k < L.length := (List.getElem?_eq_some_iff.1 hk).1
  refine ⟨?_, fun t q => upB_of (h.s2 t q), ?_, ?_, ?_, fun t q => List.mem_append_left _ (h.rt t q), ?_, fun t ht q => upB_of (h.gr t ht q), ?_⟩
  · intro t q
    by_cases e : t = s
    · subst e; exact .inr hr
    · rw [upB_ne e] at q; exact h.s1 t q
  · intro t q hc'
    rcases List.mem_append.1 q with q | q
    · exact h.l t q hc'
    · exact .next s t hr ((hL t).1 q) hc'
  · intro t q
    rcases List.mem_append.1 q with q | q
    · exact h.lS t q
    · exact hG.nam s t ((hL t).1 q)
  · intro i hi t q hc'
    rw [List.getElem?_append_left (by omega)] at q
    by_cases e : i = k
    · subst e; rw [hk] at q; obtain rfl : s = t := by simpa using q
      exact upB_at _ _
    · exact upB_of (h.p i (by omega) t q hc')
  · intro t ht q x hn
    by_cases e : t = s
    · subst e; exact List.mem_append_right _ ((hL x).2 hn)
    · rw [upB_ne e] at q; exact List.mem_append_left _ (h.th t ht q x hn)
  · intro t q hm
    by_cases e : t = s
    · subst e; exact upB_at _ _
    · rw [upB_ne e] at q; rw [upB_ne e]; exact h.ft t q hm
theorem Ri.fin {G : Gp} (hG : G.Ok) {L : List Nat} {k : Nat} {Fd Th : Nat → Bool} (h : Ri G k L Fd Th) (hk : L.length ≤ k) (s : Nat) : Fd s = true ↔ (G.m0 s = true ∨ Rch G s) := by
  have hp : ∀ t, t ∈ L → G.can t = true → Fd t = true := fun t ht hc => by
    obtain ⟨i, hi, e⟩ := List.mem_iff_getElem.1 ht
    exact h.p i (by omega) t (by rw [List.getElem?_eq_getElem hi, e]) hc
  refine ⟨h.s1 s, fun q => ?_⟩
  rcases q with q | q
  · exact h.s2 s q
  · induction q with
    | root s h1 h2 => exact hp s (h.rt s h1) h2
    | gray u s h1 h2 h3 h4 => exact hp s (h.th u h1 (h.gr u h1 h2) s h3) h4
    | next t s h1 h2 h3 ih => exact hp s (h.th t (h1.lt hG) (h.ft t ih (hG.can t h1.can)) s h2) h3
/-- Both come to the same. -/
theorem both_same {G : Gp} (hG : G.Ok) {M Fd Th : Nat → Bool} {L : List Nat} {k : Nat} (h1 : Pi G [] [] M) (h2 : Ri G k L Fd Th) (hk : L.length ≤ k) (s : Nat) : M s = Fd s := by
  have a := h1.fin hG s
  have b := h2.fin hG hk s
  cases hm : M s <;> cases hf : Fd s <;> simp_all

/-- How many are not marked. -/
def unB (M : Nat → Bool) : Nat → Nat
  | 0 => 0
  | n + 1 => unB M n + (if M n = true then 0 else 1)
theorem unB_past (M : Nat → Bool) {x : Nat} : ∀ n, n ≤ x → unB (upB M x) n = unB M n
  | 0, _ => rfl
  | n + 1, h => by unfold unB; rw [unB_past M n (by omega), upB_ne (by omega)]
theorem unB_up (M : Nat → Bool) {x : Nat} (hx : M x = false) : ∀ n, x < n → unB (upB M x) n + 1 = unB M n
  | 0, h => by omega
  | n + 1, h => by
    unfold unB
    by_cases e : x = n
    · subst e; rw [unB_past M x (Nat.le_refl _), upB_at, hx]; simp
    · have := unB_up M hx n (by omega)
      rw [upB_ne (by omega)]; omega
theorem unB_le (M : Nat → Bool) : ∀ n, unB M n ≤ n
  | 0 => Nat.le_refl _
  | n + 1 => by unfold unB; have := unB_le M n; split <;> omega
end Go.Proofs.YtcioomopgdhlmaaGreatDoor
