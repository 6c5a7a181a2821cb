/- All that was done is right, by its points, where each tells what was laid last ahead of it: no world in sight. -/
import Derived.Test.YtnegdabcjnhpdaaGreatDoorGD
import Derived.BigQuiet
import Derived.BigRegion
import Derived.Deep.RegionHeld3
namespace Go.Proofs.YtnegdabcjnhpdaaGreatDoor
def Dn.key (x : Dn) : Int := 2 * x.point + (if x.behind = true then 1 else 0)
theorem Dn.key_f {x : Dn} (h : x.behind = !true) : x.key = 2 * x.point := by unfold Dn.key; rw [h]; simp
theorem Dn.key_t {x : Dn} (h : x.behind = !false) : x.key = 2 * x.point + 1 := by unfold Dn.key; rw [h]; simp
theorem better_iff (x y : Dn) : better x y = true ↔ x.key < y.key := by
  unfold better Dn.key
  cases x.behind <;> cases y.behind <;> simp <;> omega
theorem sel_spec (ds : List Dn) (used : List Bool) (i : Nat) :
    (sel ds used i = -1 ∧ ∀ j, j < i → used.getD j false = true) ∨
    (∃ k : Nat, sel ds used i = (k : Int) ∧ k < i ∧ used.getD k false = false ∧ ∀ j, j < i → used.getD j false = false → (ds.getD k dn0).key ≤ (ds.getD j dn0).key) := by
  induction i with
  | zero => exact .inl ⟨rfl, fun j h => absurd h (by omega)⟩
  | succ i ih =>
    simp only [sel]
    by_cases hu : used.getD i false = true
    · rw [if_pos hu]
      rcases ih with ⟨h1, h2⟩ | ⟨k, h1, h2, h3, h4⟩
      · refine .inl ⟨h1, fun j hj => ?_⟩
        by_cases e : j = i
        · rw [e]; exact hu
        · exact h2 j (by omega)
      · refine .inr ⟨k, h1, by omega, h3, fun j hj hf => ?_⟩
        by_cases e : j = i
        · rw [e, hu] at hf; cases hf
        · exact h4 j (by omega) hf
    · rw [if_neg hu]
      rcases ih with ⟨h1, h2⟩ | ⟨k, h1, h2, h3, h4⟩
      · rw [if_pos (.inl (by omega))]
        refine .inr ⟨i, rfl, by omega, by simpa using hu, fun j hj hf => ?_⟩
        by_cases e : j = i
        · rw [e]; exact Int.le_refl _
        · have := h2 j (by omega); rw [this] at hf; cases hf
      · rw [h1]
        by_cases hb : better (ds.getD i dn0) (ds.getD k dn0) = true
        · rw [if_pos (.inr (by simpa using hb))]
          have hb' := (better_iff _ _).1 hb
          refine .inr ⟨i, rfl, by omega, by simpa using hu, fun j hj hf => ?_⟩
          by_cases e : j = i
          · rw [e]; exact Int.le_refl _
          · have := h4 j (by omega) hf; omega
        · rw [if_neg (by rintro (h | h); omega; exact hb (by simpa using h))]
          have hb' : ¬ _ := fun h => hb ((better_iff _ _).2 h)
          refine .inr ⟨k, rfl, by omega, h3, fun j hj hf => ?_⟩
          by_cases e : j = i
          · rw [e]; omega
          · exact h4 j (by omega) hf

/-- What was laid last, of those of which something holds. -/
def Lst (ds : List Dn) (f : Int) (P : Nat → Prop) (v : Int) : Prop :=
  (v = -1 ∧ ∀ j, j < ds.length → (ds.getD j dn0).laid = true → (ds.getD j dn0).act.fld = f → ¬ P j) ∨
  ∃ i, i < ds.length ∧ (ds.getD i dn0).laid = true ∧ (ds.getD i dn0).act.fld = f ∧ P i ∧ v = sl (ds.getD i dn0).act.val ∧
    ∀ j, j < ds.length → (ds.getD j dn0).laid = true → (ds.getD j dn0).act.fld = f → P j → (ds.getD j dn0).key ≤ (ds.getD i dn0).key
structure Spec (ds : List Dn) : Prop where
  beh : ∀ i, i < ds.length → (ds.getD i dn0).behind = !(ds.getD i dn0).laid
  fld : ∀ i, i < ds.length → (ds.getD i dn0).act.fld = 0 ∨ (ds.getD i dn0).act.fld = 1
  pos : ∀ i, i < ds.length → 0 ≤ (ds.getD i dn0).point
  dist : ∀ i j, i < ds.length → j < ds.length → (ds.getD i dn0).laid = true → (ds.getD j dn0).laid = true → (ds.getD i dn0).act.fld = (ds.getD j dn0).act.fld → (ds.getD i dn0).point = (ds.getD j dn0).point → i = j
  ok : ∀ i, i < ds.length → ∃ v, Lst ds (ds.getD i dn0).act.fld (fun j => (ds.getD j dn0).key < (ds.getD i dn0).key) v ∧
    ((ds.getD i dn0).act.kind = 0 ∨ (ds.getD i dn0).act.kind = 3 → (ds.getD i dn0).val = v ∧ (ds.getD i dn0).laid = false) ∧ ((ds.getD i dn0).act.kind = 1 → (ds.getD i dn0).laid = true) ∧
    ((ds.getD i dn0).act.kind = 2 → (ds.getD i dn0).laid = decide (v = sl (ds.getD i dn0).act.expect))
theorem Lst.uniq {ds : List Dn} (hs : Spec ds) {f : Int} {P P' : Nat → Prop} {v v' : Int} (h : Lst ds f P v) (h' : Lst ds f P' v')
    (he : ∀ j, j < ds.length → (ds.getD j dn0).laid = true → (ds.getD j dn0).act.fld = f → (P j ↔ P' j)) : v = v' := by
  rcases h with ⟨h1, h2⟩ | ⟨i, h1, h2, h3, h4, h5, h6⟩ <;> rcases h' with ⟨k1, k2⟩ | ⟨j, k1, k2, k3, k4, k5, k6⟩
  · rw [h1, k1]
  · exact absurd ((he j k1 k2 k3).2 k4) (h2 j k1 k2 k3)
  · exact absurd ((he i h1 h2 h3).1 h4) (k2 i h1 h2 h3)
  · have a := h6 j k1 k2 k3 ((he j k1 k2 k3).2 k4)
    have b := k6 i h1 h2 h3 ((he i h1 h2 h3).1 h4)
    have e : i = j := hs.dist i j h1 k1 h2 k2 (by rw [h3, k3]) (by
      have bi := hs.beh i h1; have bj := hs.beh j k1
      rw [h2] at bi; rw [k2] at bj
      rw [Dn.key_f bi, Dn.key_f bj] at a b
      omega)
    rw [h5, k5, e]
structure RgtOk (ds : List Dn) (n : Nat) (t : Rgt) : Prop where
  len : t.used.length = ds.length
  cnt : t.used.count true = n
  ord : ∀ i j, i < ds.length → j < ds.length → t.used.getD i false = true → t.used.getD j false = false → (ds.getD i dn0).key ≤ (ds.getD j dn0).key
  last : ∀ j, j < ds.length → t.used.getD j false = false → t.last ≤ (ds.getD j dn0).point
  nowl : t.now.length = 2
  now : ∀ f : Int, f = 0 ∨ f = 1 → Lst ds f (fun j => t.used.getD j false = true) (t.now.getD f.toNat 0)
theorem getD_setN (l : List Bool) (k j : Nat) (hk : k < l.length) : (l.set k true).getD j false = if j = k then true else l.getD j false := by
  simp only [List.getD_eq_getElem?_getD, List.getElem?_set]
  by_cases h : k = j
  · subst h; simp [hk]
  · simp [h, Ne.symm h]
theorem count_set (l : List Bool) (k : Nat) (hk : k < l.length) (hf : l.getD k false = false) : (l.set k true).count true = l.count true + 1 := by
  induction l generalizing k with
  | nil => simp at hk
  | cons a l ih =>
    cases k with
    | zero => simp at hf; subst hf; simp
    | succ k =>
      simp at hk hf ⊢
      have := ih k hk (by simpa using hf)
      rw [List.count_cons, List.count_cons, this]; omega
theorem all_count (l : List Bool) (h : ∀ j, j < l.length → l.getD j false = true) : l.count true = l.length := by
  induction l with
  | nil => rfl
  | cons a l ih =>
    have h0 := h 0 (by simp)
    simp at h0
    subst h0
    rw [List.count_cons, ih fun j hj => by simpa using h (j + 1) (by simpa using hj)]
    simp
theorem RgtOk.next {ds : List Dn} (hs : Spec ds) {n : Nat} {t : Rgt} (h : RgtOk ds n t) (hn : n < ds.length) : 0 ≤ sel ds t.used ds.length ∧ sel ds t.used ds.length < ds.length ∧ ∃ t', Rgt.next ds t = some t' ∧ RgtOk ds (n + 1) t' := by
  rcases sel_spec ds t.used ds.length with ⟨h1, h2⟩ | ⟨k, h1, h2, h3, h4⟩
  · have := all_count t.used fun j hj => h2 j (by rw [← h.len]; exact hj)
    rw [h.cnt, h.len] at this
    omega
  · refine ⟨by omega, by omega, ?_⟩
    unfold Rgt.next
    rw [h1]
    simp only [Int.toNat_natCast]
    obtain ⟨v, hv, o1, o2, o3⟩ := hs.ok k h2
    generalize hx : ds.getD k dn0 = x at *
    have hfl := hs.fld k h2
    rw [hx] at hfl
    have hvv : t.now.getD x.act.fld.toNat 0 = v := by
      refine Lst.uniq hs (h.now x.act.fld hfl) hv fun j hj hl hf => ⟨fun hu => ?_, fun hk => ?_⟩
      · have hle := h.ord j k hj h2 hu h3
        rw [hx] at hle
        have hne : (ds.getD j dn0).key ≠ x.key := fun e => by
          have bj := hs.beh j hj
          have bk := hs.beh k h2
          rw [hx] at bk
          rw [hl] at bj
          rw [Dn.key_f bj] at e
          cases hxl : x.laid with
          | true =>
            rw [hxl] at bk
            rw [Dn.key_f bk] at e
            have := hs.dist j k hj h2 hl (by rw [hx]; exact hxl) (by rw [hx]; exact hf) (by rw [hx]; omega)
            subst this
            rw [hu] at h3; cases h3
          | false =>
            rw [hxl] at bk
            rw [Dn.key_t bk] at e
            omega
        omega
      · cases hu : t.used.getD j false with
        | true => rfl
        | false => have := h4 j hj hu; omega
    have hlast := h.last k h2 h3
    rw [hx] at hlast
    have hord : ∀ i j, i < ds.length → j < ds.length → (t.used.set k true).getD i false = true → (t.used.set k true).getD j false = false → (ds.getD i dn0).key ≤ (ds.getD j dn0).key := fun i j hi hj hu hf => by
      rw [getD_setN _ _ _ (by rw [h.len]; exact h2)] at hu hf
      by_cases ej : j = k
      · rw [if_pos ej] at hf; cases hf
      · rw [if_neg ej] at hf
        by_cases ei : i = k
        · rw [ei, hx]; exact h4 j hj hf
        · rw [if_neg ei] at hu; exact h.ord i j hi hj hu hf
    have hl2 : ∀ j, j < ds.length → (t.used.set k true).getD j false = false → x.point ≤ (ds.getD j dn0).point := fun j hj hf => by
      rw [getD_setN _ _ _ (by rw [h.len]; exact h2)] at hf
      by_cases ej : j = k
      · rw [if_pos ej] at hf; cases hf
      · rw [if_neg ej] at hf
        have := h4 j hj hf
        unfold Dn.key at this
        split at this <;> split at this <;> omega
    have keep : x.laid = false → ∀ f : Int, f = 0 ∨ f = 1 → Lst ds f (fun j => (t.used.set k true).getD j false = true) (t.now.getD f.toNat 0) := fun hxl f hf => by
      have hset : ∀ j, j < ds.length → (ds.getD j dn0).laid = true → ((t.used.set k true).getD j false = true ↔ t.used.getD j false = true) := fun j hj hl => by
        rw [getD_setN _ _ _ (by rw [h.len]; exact h2)]
        by_cases ej : j = k
        · subst ej; rw [hx, hxl] at hl; cases hl
        · rw [if_neg ej]
      rcases h.now f hf with ⟨a, b⟩ | ⟨i, a, b, c, d, e, g⟩
      · exact .inl ⟨a, fun j hj hl hf' hp => b j hj hl hf' ((hset j hj hl).1 hp)⟩
      · exact .inr ⟨i, a, b, c, (hset i a b).2 d, e, fun j hj hl hf' hp => g j hj hl hf' ((hset j hj hl).1 hp)⟩
    have put : x.laid = true → ∀ f : Int, f = 0 ∨ f = 1 → Lst ds f (fun j => (t.used.set k true).getD j false = true) ((t.now.set x.act.fld.toNat (sl x.act.val)).getD f.toNat 0) := fun hxl f hf => by
      have hlen := h.nowl
      by_cases e : f = x.act.fld
      · subst e
        refine .inr ⟨k, h2, by rw [hx]; exact hxl, by rw [hx], by show (t.used.set k true).getD k false = true; rw [getD_setN _ _ _ (by rw [h.len]; exact h2), if_pos rfl], ?_, fun j hj hl hf' hp => ?_⟩
        · rw [hx]
          have : x.act.fld.toNat < t.now.length := by omega
          simp [List.getD_eq_getElem?_getD, this]
        · replace hp : (t.used.set k true).getD j false = true := hp
          rw [getD_setN _ _ _ (by rw [h.len]; exact h2)] at hp
          by_cases ej : j = k
          · rw [ej]; exact Int.le_refl _
          · rw [if_neg ej] at hp; exact h.ord j k hj h2 hp h3
      · have hne : x.act.fld.toNat ≠ f.toNat := by omega
        have hg : (t.now.set x.act.fld.toNat (sl x.act.val)).getD f.toNat 0 = t.now.getD f.toNat 0 := by
          simp [List.getD_eq_getElem?_getD, hne]
        rw [hg]
        have hset : ∀ j, (ds.getD j dn0).act.fld = f → ((t.used.set k true).getD j false = true ↔ t.used.getD j false = true) := fun j hfj => by
          rw [getD_setN _ _ _ (by rw [h.len]; exact h2)]
          by_cases ej : j = k
          · subst ej; rw [hx] at hfj; exact absurd hfj.symm e
          · rw [if_neg ej]
        rcases h.now f hf with ⟨a, b⟩ | ⟨i, a, b, c, d, e', g⟩
        · exact .inl ⟨a, fun j hj hl hf' hp => b j hj hl hf' ((hset j hf').1 hp)⟩
        · exact .inr ⟨i, a, b, c, (hset i c).2 d, e', fun j hj hl hf' hp => g j hj hl hf' ((hset j hf').1 hp)⟩
    have mk : ∀ l, l.length = 2 → (∀ f : Int, f = 0 ∨ f = 1 → Lst ds f (fun j => (t.used.set k true).getD j false = true) (l.getD f.toNat 0)) → RgtOk ds (n + 1) ⟨t.used.set k true, l, x.point⟩ := fun l hl hL =>
      ⟨by simp [h.len], by show (t.used.set k true).count true = n + 1; rw [count_set _ _ (by rw [h.len]; exact h2) h3, h.cnt], hord, hl2, hl, hL⟩
    unfold Rgt.one
    rw [if_neg (by omega), hvv]
    by_cases hk : x.act.kind = 0 ∨ x.act.kind = 3
    · obtain ⟨e1, e2⟩ := o1 hk
      rw [if_pos hk, if_neg (by simp [e1])]
      exact ⟨_, rfl, mk _ h.nowl (keep e2)⟩
    · rw [if_neg hk, if_neg (fun hh => by have := o2 hh.1; rw [hh.2] at this; cases this), if_neg (fun hh => hh.2 (o3 hh.1))]
      cases hxl : x.laid with
      | true => exact ⟨_, rfl, mk _ (by simp [h.nowl]) (put hxl)⟩
      | false => exact ⟨_, rfl, mk _ h.nowl (keep hxl)⟩
theorem Rgt.run_ok {ds : List Dn} (hs : Spec ds) : ∀ n, n ≤ ds.length → ∃ t, Rgt.run ds n = some t ∧ RgtOk ds n t := by
  intro n
  induction n with
  | zero =>
    intro _
    have hu : ∀ j, (List.replicate ds.length false).getD j false = false := fun j => by
      simp only [List.getD_eq_getElem?_getD, List.getElem?_replicate]
      split <;> rfl
    refine ⟨_, rfl, by simp, by simp [List.count_replicate], fun i j hi hj h => ?_, fun j hj _ => ?_, rfl, fun f hf => .inl ⟨?_, fun j hj _ _ h => ?_⟩⟩
    · rw [hu] at h; cases h
    · have := hs.pos j hj; show (-1 : Int) ≤ _; omega
    · rcases hf with rfl | rfl <;> rfl
    · replace h : (List.replicate ds.length false).getD j false = true := h
      rw [hu] at h; cases h
  | succ n ih =>
    intro hn
    obtain ⟨t, h1, h2⟩ := ih (by omega)
    obtain ⟨_, _, t', h3, h4⟩ := h2.next hs (by omega)
    exact ⟨t', by show (Rgt.run ds n).bind _ = _; rw [h1]; exact h3, h4⟩
theorem right_of_spec {ds : List Dn} (hs : Spec ds) : rightF ds = true := by
  obtain ⟨t, h, _⟩ := Rgt.run_ok hs ds.length (Nat.le_refl _)
  unfold rightF
  rw [h]; rfl
end Go.Proofs.YtnegdabcjnhpdaaGreatDoor
/- For the contract of the law's right: its rows, and what the rounds leave. -/
namespace Go.Proofs.YtnegdabcjnhpdaaGreatDoor
open Go.RowKit
open Mm (IsMem MS touched Only)
open Hh (WT)

def boolsOf (l : List Bool) : Array Value := (l.map Value.bool).toArray
theorem made_bools {w : World} {base g n c : Nat} (h : w.ownsRow base 4 1 (.slice (some ⟨g, 0, none⟩) n c) n (madeCells #[Value.bool false] n).toList) (hc : c = n) : Blk w g (boolsOf (List.replicate n false)) 4 := by
  obtain ⟨_, ⟨h0, _⟩ | ⟨g', c', cur, h1, h2, h3, h4, h5, h6, h7⟩⟩ := h
  · cases h0
  · simp only [Value.slice.injEq, Option.some.injEq, Addr.mk.injEq] at h1
    obtain ⟨⟨rfl, -⟩, -, rfl⟩ := h1
    subst hc
    rw [Nat.mul_one] at h6 h7
    have e : cur.toList.take c = cur.toList := List.take_of_length_le (by simp [h6])
    rw [e] at h7
    have e2 : (madeCells #[Value.bool false] c).toList = List.replicate c (Value.bool false) := toList_madeCells_one _ _
    rw [e2] at h7
    show w.heap[g]? = _
    rw [h3]
    have e3 : cur = boolsOf (List.replicate c false) := by
      apply Array.ext'
      rw [h7]
      simp [boolsOf]
    rw [e3]
theorem bools_get (l : List Bool) {i : Nat} (hi : i < l.length) : (boolsOf l)[i]? = some (.bool (l.getD i false)) := by
  simp [boolsOf, hi]
theorem bools_set (l : List Bool) (i : Nat) (b : Bool) : (boolsOf l).setIfInBounds i (.bool b) = boolsOf (l.set i b) := by
  simp [boolsOf]
theorem dnC_len (x : Dn) : (dnC x).length = 8 := rfl
theorem dnR_get (ds : List Dn) {i j : Nat} (hi : i < ds.length) (hj : j < 8) : (dnR ds)[i * 8 + j]? = (dnC (ds.getD i dn0))[j]? := by
  induction ds generalizing i with
  | nil => simp at hi
  | cons a ds ih =>
    have e : dnR (a :: ds) = dnC a ++ dnR ds := rfl
    rw [e]
    cases i with
    | zero => rw [List.getElem?_append_left (by rw [dnC_len]; omega)]; simp
    | succ i =>
      rw [List.getElem?_append_right (by rw [dnC_len]; omega), dnC_len, show (i + 1) * 8 + j - 8 = i * 8 + j by omega, ih (by simpa using hi)]
      simp
/-- What was done, in its row. -/
theorem Wt.done {w : World} {lo Wb M G B : Nat} {u : Wl} {v : Value} (h : Wt w lo Wb M G B u v) {i : Nat} (hi : i < u.done.length) : ∃ g cap, v = .slice (some ⟨g, 0, none⟩) u.done.length cap ∧ g < w.heap.size ∧ ∀ j, j < 8 → ∀ x, (dnC (u.done.getD i dn0))[j]? = some x → w.cell? ⟨g, i * 8 + j, none⟩ = some x := by
  obtain ⟨h0, ⟨_, h1⟩ | ⟨g, cap, cur, rfl, hb, hg, hn, hc, hs, ht⟩⟩ := h.row
  · omega
  · refine ⟨g, cap, rfl, lt_of_block hg, fun j hj x hx => ?_⟩
    unfold World.cell?
    simp only [hg]
    have e : (cur.toList.take (u.done.length * 8))[i * 8 + j]? = some x := by rw [ht, dnR_get _ hi hj]; exact hx
    rw [List.getElem?_take_of_lt (by omega)] at e
    simpa using e
theorem Wt.slice {w : World} {lo Wb M G B : Nat} {u : Wl} {v : Value} (h : Wt w lo Wb M G B u v) : ∃ ad cap, v = .slice ad u.done.length cap := by
  obtain ⟨_, ⟨h1, h2⟩ | ⟨g, cap, cur, h1, _⟩⟩ := h.row
  · exact ⟨none, 0, by rw [h1, h2]⟩
  · exact ⟨_, cap, h1⟩
structure DnOk (x : Dn) : Prop where
  kind : x.act.kind = 0 ∨ x.act.kind = 1 ∨ x.act.kind = 2 ∨ x.act.kind = 3
  fld : x.act.fld = 0 ∨ x.act.fld = 1
  val : x.act.val < 4611686018427387904
  expect : x.act.expect < 4611686018427387904
theorem Rgt.run_len {ds : List Dn} : ∀ {n : Nat} {t : Rgt}, n ≤ ds.length → Rgt.run ds n = some t → t.used.length = ds.length ∧ t.used.count true = n ∧ t.now.length = 2
  | 0, t, _, h => by
    cases h
    exact ⟨by simp, by simp [List.count_replicate], rfl⟩
  | n + 1, t, hn, h => by
    have h' : (Rgt.run ds n).bind (Rgt.next ds) = some t := h
    cases hr : Rgt.run ds n with
    | none => rw [hr] at h'; cases h'
    | some t0 =>
      rw [hr] at h'
      obtain ⟨a, b, c⟩ := Rgt.run_len (by omega) hr
      have h2 : Rgt.next ds t0 = some t := h'
      unfold Rgt.next at h2
      split at h2
      · cases h2
      · rename_i l hl
        cases h2
        rcases sel_spec ds t0.used ds.length with ⟨s1, s2⟩ | ⟨k, s1, s2, s3, s4⟩
        · have := all_count t0.used fun j hj => s2 j (by rw [← a]; exact hj)
          omega
        · rw [s1]
          refine ⟨by simp [a], ?_, ?_⟩
          · show (t0.used.set (k : Int).toNat true).count true = n + 1
            rw [Int.toNat_natCast, count_set _ _ (by rw [a]; exact s2) s3, b]
          · unfold Rgt.one at hl
            repeat' split at hl
            all_goals first | (cases hl; done) | (cases hl; simp [c])
theorem Rgt.sel_in {ds : List Dn} {n : Nat} {t : Rgt} (hn : n < ds.length) (h : Rgt.run ds n = some t) : ∃ k : Nat, sel ds t.used ds.length = (k : Int) ∧ k < ds.length := by
  obtain ⟨a, b, _⟩ := Rgt.run_len (by omega) h
  rcases sel_spec ds t.used ds.length with ⟨s1, s2⟩ | ⟨k, s1, s2, s3, s4⟩
  · have := all_count t.used fun j hj => s2 j (by rw [← a]; exact hj)
    omega
  · exact ⟨k, s1, s2⟩
theorem Rgt.run_none {ds : List Dn} {n : Nat} (h : Rgt.run ds n = none) : ∀ m, n ≤ m → Rgt.run ds m = none
  | 0, hm => by have : n = 0 := by omega
                subst this; exact h
  | m + 1, hm => by
    by_cases e : n = m + 1
    · rw [← e]; exact h
    · show (Rgt.run ds m).bind _ = none
      rw [Rgt.run_none h m (by omega)]; rfl
theorem right_no {ds : List Dn} {n : Nat} {t : Rgt} (hn : n < ds.length) (h : Rgt.run ds n = some t) {k : Nat} (hk : sel ds t.used ds.length = (k : Int)) (ho : t.one (ds.getD k dn0) = none) : rightF ds = false := by
  have : Rgt.run ds (n + 1) = none := by
    show (Rgt.run ds n).bind _ = none
    rw [h]
    show Rgt.next ds t = none
    unfold Rgt.next
    rw [hk, Int.toNat_natCast, ho]
  unfold rightF
  rw [Rgt.run_none this _ (by omega)]; rfl
theorem right_on {ds : List Dn} {n : Nat} {t : Rgt} (h : Rgt.run ds n = some t) {k : Nat} (hk : sel ds t.used ds.length = (k : Int)) {l : List Int} (ho : t.one (ds.getD k dn0) = some l) : Rgt.run ds (n + 1) = some ⟨t.used.set k true, l, (ds.getD k dn0).point⟩ := by
  show (Rgt.run ds n).bind _ = _
  rw [h]
  show Rgt.next ds t = _
  unfold Rgt.next
  rw [hk, Int.toNat_natCast, ho]
/-- The world within right. -/
structure Rw (w wr : World) (lo Wb M G B : Nat) (u : Wl) (v : Value) (Nb Ub : Nat) (now : List Int) (used : List Bool) : Prop where
  t : Wt wr lo Wb M G B u v
  n : wr.heap[Nb]? = some (.cells (now.map fun x => Value.int .i64 x).toArray 3 (0, 0))
  us : wr.heap[Ub]? = some (.cells (boolsOf used) 4 (0, 0))
  bel : Below w.heap.size w wr
  ne : Nb ≠ Ub ∧ w.heap.size ≤ Nb ∧ w.heap.size ≤ Ub
  lt : Wb < w.heap.size ∧ M < w.heap.size ∧ G < w.heap.size ∧ B < w.heap.size ∧ ∀ i ∈ v.ownBlock, i < w.heap.size
theorem Rw.below {w wr w' : World} {lo Wb M G B : Nat} {u : Wl} {v : Value} {Nb Ub : Nat} {now : List Int} {used : List Bool} (h : Rw w wr lo Wb M G B u v Nb Ub now used) (b : Below wr.heap.size wr w') : Rw w w' lo Wb M G B u v Nb Ub now used :=
  ⟨h.t.below b, (b.block Nb (lt_of_block h.n)).trans h.n, (b.block Ub (lt_of_block h.us)).trans h.us, seq_below h.bel b, h.ne, h.lt⟩
/-- A block of the call's own is written. -/
theorem Wt.other {wr : World} {lo Wb M G B : Nat} {u : Wl} {v : Value} (h : Wt wr lo Wb M G B u v) {N : Nat} {c : Array Value} {t : TypeId} (hN : wr.heap[N]? = some (.cells c t (0, 0))) (ht : t ≠ 61) (hn : N ≠ Wb ∧ N ≠ M ∧ N ≠ G ∧ N ≠ B) (hl : lo ≤ N) (i : Nat) (x : Value) : Wt (wr.setCell ⟨N, i, none⟩ x) lo Wb M G B u v := by
  have c : Chg [N] wr (wr.setCell ⟨N, i, none⟩ x) := (Chg.refl [N] wr).setCell (by simp) x
  exact ⟨h.gw.set hN ⟨hn.2.1, hn.2.2.1, hn.2.2.2⟩ hl x, c.at h.blk (by simp; exact Ne.symm hn.1), own_same h.row fun j cc f hj => c.block j (lt_of_block hj) (by simp; rintro rfl; rw [hN] at hj; cases hj; exact ht rfl), h.ne, h.lo⟩
theorem Rw.setU {w wr : World} {lo Wb M G B : Nat} {u : Wl} {v : Value} {Nb Ub : Nat} {now : List Int} {used : List Bool} (h : Rw w wr lo Wb M G B u v Nb Ub now used) (k : Nat) : Rw w (wr.setCell ⟨Ub, k, none⟩ (.bool true)) lo Wb M G B u v Nb Ub now (used.set k true) := by
  have hl := h.lt
  have hn := h.ne
  have hlo := h.t.gw.lo1
  have hlo2 := h.t.lo
  refine ⟨Wt.other h.t h.us (by decide) (by omega) (by omega) k _, (Below.heap_setCell wr ⟨Ub, k, none⟩ _ Nb hn.1).trans h.n, ?_, h.bel.setCell (p := ⟨Ub, k, none⟩) hn.2.2 _, hn, hl⟩
  rw [← bools_set]; exact Mm.heap_setCell_at h.us _
theorem Rw.setN {w wr : World} {lo Wb M G B : Nat} {u : Wl} {v : Value} {Nb Ub : Nat} {now : List Int} {used : List Bool} (h : Rw w wr lo Wb M G B u v Nb Ub now used) (k : Nat) (x : Int) : Rw w (wr.setCell ⟨Nb, k, none⟩ (.int .i64 x)) lo Wb M G B u v Nb Ub (now.set k x) used := by
  have hl := h.lt
  have hn := h.ne
  have hlo := h.t.gw.lo1
  have hlo2 := h.t.lo
  refine ⟨Wt.other h.t h.n (by decide) (by omega) (by omega) k _, ?_, (Below.heap_setCell wr ⟨Nb, k, none⟩ _ Ub (Ne.symm hn.1)).trans h.us, h.bel.setCell (p := ⟨Nb, k, none⟩) hn.2.1 _, hn, hl⟩
  rw [show ((now.set k x).map fun x => Value.int .i64 x).toArray = ((now.map fun x => Value.int .i64 x).toArray).setIfInBounds k (.int .i64 x) by simp]
  exact Mm.heap_setCell_at h.n _
end Go.Proofs.YtnegdabcjnhpdaaGreatDoor
/- The contract of the law's right: its answer is rightF. -/
namespace Go.Proofs.YtnegdabcjnhpdaaGreatDoor
open Go.RowKit
open Mm (IsMem MS touched Only)
open Hh (WT)
theorem Tryz.info4 : (Tryz.prog.info? 4).map (fun i => (i.zero, i.size, i.bytes)) = some (some (.bool false), 1, 1) := by kernel_rfl
set_option maxRecDepth 100000 in
set_option maxHeartbeats 16000000 in
theorem right_any2 {w : World} {lo Wb M G B : Nat} {u : Wl} {v : Value} (ht : Wt w lo Wb M G B u v) (hok : ∀ i, i < u.done.length → DnOk (u.done.getD i dn0)) (hlen : u.done.length < 1000000) :
    Calls Tryz.prog 14 #[.pointer (some ⟨Wb, 0, none⟩)] w fun e w' => e = .returned (.bool (rightF u.done)) ∧ Below w.heap.size w w' := by
  obtain ⟨i0, hi, hz0, hz1, hz2⟩ := info_parts Tryz.info4
  obtain ⟨ad, cap, hv⟩ := ht.slice
  have hown : ∀ i ∈ v.ownBlock, i < w.heap.size := fun i hi => (ht.row.lt i hi).2
  have hltW : Wb < w.heap.size := lt_of_block ht.blk
  have hMG := ht.gw.mem.lt
  have hBl : B < w.heap.size := by obtain ⟨_, _, x⟩ := ht.gw.book; exact x.lt
  have b1 := alloc_below w (.cells #[.int .i64 (-1), .int .i64 (-1)] 3)
  have hN := new_obj w (.cells #[.int .i64 (-1), .int .i64 (-1)] 3)
  have x9 : ∀ wr, Wt wr lo Wb M G B u v → wr.cell? ⟨Wb, 9, none⟩ = some (.slice ad u.done.length cap) := fun wr h => by
    rw [← hv]
    exact Blk.cell (t := 35) h.blk rfl
  have hcl : ∀ wr, Wt wr lo Wb M G B u v → ∀ i, i < u.done.length → ∃ g, ad = some ⟨g, 0, none⟩ ∧ ∀ j, j < 8 → ∀ x, (dnC (u.done.getD i dn0))[j]? = some x → wr.cell? ⟨g, i * 8 + j, none⟩ = some x := fun wr h i hi => by
    obtain ⟨g, cap', e, _, q⟩ := h.done hi
    rw [hv] at e
    cases e
    exact ⟨g, rfl, q⟩
  have ht1 := ht.below b1
  have hsz1 : (w.alloc (.cells #[.int .i64 (-1), .int .i64 (-1)] 3)).heap.size = w.heap.size + 1 := by simp
  obtain ⟨rb, hrb⟩ : ∃ rb, rightF u.done = rb := ⟨_, rfl⟩
  rw [hrb]
  obtain ⟨ds, hds⟩ : ∃ ds, u.done = ds := ⟨_, rfl⟩
  obtain ⟨n, hn⟩ : ∃ n : Nat, ds.length = n := ⟨_, rfl⟩
  rw [hds] at hok hlen x9 hrb hv hcl
  rw [hn] at hok hlen x9 hv hcl
  replace hrb : Hid (rightF ds = rb) := hrb
  replace hds : Hid (u.done = ds) := hds
  replace hn : Hid (ds.length = n) := hn
  replace hv : Hid (v = .slice ad n cap) := hv
  go_enter Tryz.func14, Tryz.ntmps14
  go_upto_region 3 with fail
  generalize w.alloc (.cells #[.int .i64 (-1), .int .i64 (-1)] 3) = w1 at *
  have y9 := x9 _ ht1
  generalize hNb : w.heap.size = Nb at hN hsz1 ⊢
  replace hNb : Hid (w.heap.size = Nb) := hNb
  go_upto_region 4 with (at_make; refine wpList_make_full _ rfl _ _ 95 rfl w1.heap.size 4 i0 (.bool false) 1 Tryz.underlying95 hi hz0 hz1 .i64 .i64 n n n rfl rfl rfl rfl ?c1 ?c2 (Nat.le_refl _) ?_)
  case c1 => rw [hz2]; omega
  case c2 => unfold maxLen; omega
  intro w2 hownU hgrow
  have hU := made_bools hownU rfl
  have b2 := Mm.of_grown hgrow
  have rw0 : Rw w w2 lo Wb M G B u v Nb (Nb + 1) [-1, -1] (List.replicate n false) := ⟨ht1.below b2, (b2.block Nb (by omega)).trans hN, hU, seq_below b1 b2, by have := hNb.out; omega, hltW, hMG.1, hMG.2.1, hBl, hown⟩
  have hr0 : Rgt.run ds 0 = some ⟨List.replicate n false, [-1, -1], -1⟩ := by rw [← hn.out]; rfl
  clear hownU hgrow hU b2 ht1 hN b1 y9 ht hi hz0 hz1 hz2
  clear hsz1 hown hltW hMG hBl
  generalize Nb + 1 = Ub at *
  go_wp2
  go_loopw [4, 6] (fun la nn wr => ∃ (j : Nat) (t : Rgt), j ≤ n ∧ nn = .int .i64 j ∧ la = .int .i64 t.last ∧ Rgt.run ds j = some t ∧ Rw w wr lo Wb M G B u v Nb Ub t.now t.used) (fun _ nn _ => n - (intOf nn).toNat)
  case atStart => exact ⟨0, _, Nat.zero_le _, rfl, rfl, hr0, rw0⟩
  case round =>
    clear rw0 hr0
    obtain ⟨j, t, hj, rfl, rfl, hrun, rr⟩ := hrel
    have y9 := x9 _ rr.t
    by_cases hjn : j < n
    · have hjI : (j : Int) < (n : Int) := by omega
      obtain ⟨k, hsel, hkn⟩ := Rgt.sel_in (by rw [hn.out]; exact hjn) hrun
      obtain ⟨hul, _, hnl⟩ := Rgt.run_len (by rw [hn.out]; exact hj) hrun
      rw [hn.out] at hul hsel hkn
      replace hsel : Hid (sel ds t.used n = (k : Int)) := hsel
      clear hj
      go_wp2
      go_loopw [7, 8] (fun kk ii wr => ∃ i : Nat, i ≤ n ∧ ii = .int .i64 i ∧ kk = .int .i64 (sel ds t.used i) ∧ Rw w wr lo Wb M G B u v Nb Ub t.now t.used) (fun _ ii _ => n - (intOf ii).toNat)
      case atStart => exact ⟨0, Nat.zero_le _, rfl, rfl, rr⟩
      case round =>
        clear rr y9
        obtain ⟨i, hi, rfl, rfl, rr⟩ := hrel
        have y9 := x9 _ rr.t
        by_cases hin : i < n
        · have hiI : (i : Int) < (n : Int) := by omega
          obtain ⟨g, rfl, hq⟩ := hcl _ rr.t i hin
          have hss : sel ds t.used (i + 1) = if t.used.getD i false = true then sel ds t.used i else if sel ds t.used i < 0 ∨ better (ds.getD i dn0) (ds.getD (sel ds t.used i).toNat dn0) = true then (i : Int) else sel ds t.used i := rfl
          have hsp := sel_spec ds t.used i
          have uc : ∀ wr', Rw w wr' lo Wb M G B u v Nb Ub t.now t.used → wr'.cell? ⟨Ub, i, none⟩ = some (.bool (t.used.getD i false)) := fun wr' h => Blk.cell (t := 4) h.us (bools_get _ (by omega))
          have q0 := hq 0 (by omega) _ rfl
          have q1 := hq 1 (by omega) _ rfl
          have q2 := hq 2 (by omega) _ rfl
          have q3 := hq 3 (by omega) _ rfl
          have q4 := hq 4 (by omega) _ rfl
          have q5 := hq 5 (by omega) _ rfl
          have q6 := hq 6 (by omega) _ rfl
          have q7 := hq 7 (by omega) _ rfl
          simp only [Nat.add_zero] at q0
          generalize ds.getD i dn0 = x at q0 q1 q2 q3 q4 q5 q6 q7 hss
          obtain ⟨pt, bh, ⟨ak, af, av, ae⟩, xv, ld⟩ := x
          simp only at q0 q1 q2 q3 q4 q5 q6 q7
          generalize t.used.getD i false = ub at uc hss
          generalize sel ds t.used i = sI at *
          replace hss : Hid _ := hss
          replace hsp : Hid _ := hsp
          clear hq hi
          go_upto_region 12 with fail
          have rr1 := rr.below (alloc_below wr (.cells #[.int .i64 pt, .bool bh, .int .i64 ak, .int .i64 af, .int .i64 av, .int .i64 ae, .int .i64 xv, .bool ld] 61))
          have hX : Blk (wr.alloc (.cells #[.int .i64 pt, .bool bh, .int .i64 ak, .int .i64 af, .int .i64 av, .int .i64 ae, .int .i64 xv, .bool ld] 61)) wr.heap.size #[.int .i64 pt, .bool bh, .int .i64 ak, .int .i64 af, .int .i64 av, .int .i64 ae, .int .i64 xv, .bool ld] 61 := new_obj wr _
          clear rr q0 q1 q2 q3 q4 q5 q6 q7 y9
          generalize wr.alloc (.cells #[.int .i64 pt, .bool bh, .int .i64 ak, .int .i64 af, .int .i64 av, .int .i64 ae, .int .i64 xv, .bool ld] 61) = w5 at *
          generalize wr.heap.size = X at *
          have y9 := x9 _ rr1.t
          have ui := uc _ rr1
          have p0 : w5.cell? ⟨X, 0, none⟩ = some (.int .i64 pt) := hX.cell rfl
          have p1 : w5.cell? ⟨X, 1, none⟩ = some (.bool bh) := hX.cell rfl
          cases ub
          · rcases hsp.out with ⟨e, _⟩ | ⟨k0, e, hk0, _, _⟩
            · subst e
              go_upto_region 13 with fail
              go_quiet (fail)
              have rr2 := rr1.below (Hh.below_drewN (Below.refl _ _) nq)
              go_wp2
              go_roundw
              case rel => exact ⟨i + 1, by omega, by go_num, by rw [hss.out]; simp, rr2⟩
              case measure => simp [intOf]; omega
            · subst e
              obtain ⟨g', hge, hq⟩ := hcl _ rr1.t k0 (by omega)
              cases hge
              have r0 := hq 0 (by omega) _ rfl
              have r1 := hq 1 (by omega) _ rfl
              simp only [Nat.add_zero] at r0
              have hbt : better ⟨pt, bh, ⟨ak, af, av, ae⟩, xv, ld⟩ (ds.getD k0 dn0) = (decide (pt < (ds.getD k0 dn0).point) || (decide (pt = (ds.getD k0 dn0).point) && !bh && (ds.getD k0 dn0).behind)) := rfl
              have hso := hss.out
              simp only [Int.toNat_natCast, hbt] at hso
              generalize ds.getD k0 dn0 = y at r0 r1 hso
              obtain ⟨py, by_, ay, yv, yl⟩ := y
              simp only at r0 r1 hso
              replace hso : Hid _ := hso
              clear hq hss hsp hbt
              have hk0I : ¬ (k0 : Int) < 0 := by omega
              have hk0n : (k0 : Int) < (n : Int) := by omega
              by_cases c1 : pt < py
              · have hsel' : sel ds t.used (i + 1) = (i : Int) := by rw [hso.out]; simp [c1]
                replace hsel' : Hid _ := hsel'
                clear hso
                go_upto_region 13 with fail
                go_quiet (fail)
                have rr2 := rr1.below (Hh.below_drewN (Below.refl _ _) nq)
                go_wp2
                go_roundw
                case rel => exact ⟨i + 1, by omega, by go_num, by rw [hsel'.out], rr2⟩
                case measure => simp [intOf]; omega
              · by_cases c2 : pt = py
                · subst c2
                  cases bh
                  · cases by_
                    · have hsel' : sel ds t.used (i + 1) = (k0 : Int) := by rw [hso.out]; simp; omega
                      replace hsel' : Hid _ := hsel'
                      clear hso
                      go_upto_region 13 with fail
                      go_quiet (fail)
                      have rr2 := rr1.below (Hh.below_drewN (Below.refl _ _) nq)
                      go_wp2
                      go_roundw
                      case rel => exact ⟨i + 1, by omega, by go_num, by rw [hsel'.out], rr2⟩
                      case measure => simp [intOf]; omega
                    · have hsel' : sel ds t.used (i + 1) = (i : Int) := by rw [hso.out]; simp
                      replace hsel' : Hid _ := hsel'
                      clear hso
                      go_upto_region 13 with fail
                      go_quiet (fail)
                      have rr2 := rr1.below (Hh.below_drewN (Below.refl _ _) nq)
                      go_wp2
                      go_roundw
                      case rel => exact ⟨i + 1, by omega, by go_num, by rw [hsel'.out], rr2⟩
                      case measure => simp [intOf]; omega
                  · have hsel' : sel ds t.used (i + 1) = (k0 : Int) := by rw [hso.out]; simp; omega
                    replace hsel' : Hid _ := hsel'
                    clear hso
                    go_upto_region 13 with fail
                    go_quiet (fail)
                    have rr2 := rr1.below (Hh.below_drewN (Below.refl _ _) nq)
                    go_wp2
                    go_roundw
                    case rel => exact ⟨i + 1, by omega, by go_num, by rw [hsel'.out], rr2⟩
                    case measure => simp [intOf]; omega
                · have hsel' : sel ds t.used (i + 1) = (k0 : Int) := by rw [hso.out]; simp [c1, c2]; omega
                  have cb : (pt == py) = false := by simpa using c2
                  replace hsel' : Hid _ := hsel'
                  clear hso
                  go_upto_region 13 with fail
                  go_quiet (fail)
                  have rr2 := rr1.below (Hh.below_drewN (Below.refl _ _) nq)
                  go_wp2
                  go_roundw
                  case rel => exact ⟨i + 1, by omega, by go_num, by rw [hsel'.out], rr2⟩
                  case measure => simp [intOf]; omega
          · go_wp2
            go_roundw
            case rel => exact ⟨i + 1, by omega, by go_num, by rw [hss.out]; simp, rr1⟩
            case measure => simp [intOf]; omega
        · obtain rfl : i = n := by omega
          have hiI : ¬ (i : Int) < (i : Int) := by omega
          have hso := hsel.out
          rw [hso]
          clear hso
          obtain ⟨g, rfl, hq⟩ := hcl _ rr.t k hkn
          have hkI : (k : Int) < (i : Int) := by omega
          have hk0 : ¬ (k : Int) < 0 := by omega
          have uk : wr.cell? ⟨Ub, k, none⟩ = some (.bool (t.used.getD k false)) := Blk.cell (t := 4) rr.us (bools_get _ (by omega))
          have uf : wr.frozen? ⟨Ub, k, none⟩ = false := Blk.free (t := 4) rr.us k
          clear hq
          go_upto_region 16 with fail
          have rr1 := rr.setU k
          clear rr y9 uk uf
          generalize wr.setCell ⟨Ub, k, none⟩ (.bool true) = w4 at *
          have y9 := x9 _ rr1.t
          obtain ⟨g', hge, hq⟩ := hcl _ rr1.t k hkn
          cases hge
          have q0 := hq 0 (by omega) _ rfl
          have q1 := hq 1 (by omega) _ rfl
          have q2 := hq 2 (by omega) _ rfl
          have q3 := hq 3 (by omega) _ rfl
          have q4 := hq 4 (by omega) _ rfl
          have q5 := hq 5 (by omega) _ rfl
          have q6 := hq 6 (by omega) _ rfl
          have q7 := hq 7 (by omega) _ rfl
          simp only [Nat.add_zero] at q0
          have hxk := hok k hkn
          generalize hxe : ds.getD k dn0 = x at q0 q1 q2 q3 q4 q5 q6 q7 hxk
          obtain ⟨pt, bh, ⟨ak, af, av, ae⟩, xv, ld⟩ := x
          replace hxe : Hid (ds.getD k dn0 = _) := hxe
          simp only at q0 q1 q2 q3 q4 q5 q6 q7
          obtain ⟨o1, o2, o3, o4⟩ := hxk
          simp only at o1 o2 o3 o4
          obtain ⟨f, hf⟩ : ∃ f : Nat, af = (f : Int) := ⟨af.toNat, by omega⟩
          subst hf
          have hf2 : f < 2 := by omega
          clear hq hin
          go_upto_region 17 with fail
          have rr2 := rr1.below (alloc_below w4 (.cells #[.int .i64 pt, .bool bh, .int .i64 ak, .int .i64 (f : Nat), .int .i64 av, .int .i64 ae, .int .i64 xv, .bool ld] 61))
          have hX : Blk (w4.alloc (.cells #[.int .i64 pt, .bool bh, .int .i64 ak, .int .i64 (f : Nat), .int .i64 av, .int .i64 ae, .int .i64 xv, .bool ld] 61)) w4.heap.size #[.int .i64 pt, .bool bh, .int .i64 ak, .int .i64 (f : Nat), .int .i64 av, .int .i64 ae, .int .i64 xv, .bool ld] 61 := new_obj w4 _
          clear rr1 q0 q1 q2 q3 q4 q5 q6 q7 y9
          generalize w4.alloc (.cells #[.int .i64 pt, .bool bh, .int .i64 ak, .int .i64 (f : Nat), .int .i64 av, .int .i64 ae, .int .i64 xv, .bool ld] 61) = w5 at *
          generalize w4.heap.size = X at *
          have p0 : w5.cell? ⟨X, 0, none⟩ = some (.int .i64 pt) := hX.cell rfl
          have p2 : w5.cell? ⟨X, 2, none⟩ = some (.int .i64 ak) := hX.cell rfl
          have p3 : w5.cell? ⟨X, 3, none⟩ = some (.int .i64 (f : Nat)) := hX.cell rfl
          have p4 : w5.cell? ⟨X, 4, none⟩ = some (.int .i64 av) := hX.cell rfl
          have p5 : w5.cell? ⟨X, 5, none⟩ = some (.int .i64 ae) := hX.cell rfl
          have p6 : w5.cell? ⟨X, 6, none⟩ = some (.int .i64 xv) := hX.cell rfl
          have p7 : w5.cell? ⟨X, 7, none⟩ = some (.bool ld) := hX.cell rfl
          have nf : w5.cell? ⟨Nb, f, none⟩ = some (.int .i64 (t.now.getD f 0)) := Blk.cell (t := 3) rr2.n (by simp [show f < t.now.length by omega])
          have nfz : w5.frozen? ⟨Nb, f, none⟩ = false := Blk.free (t := 3) rr2.n f
          have hone : t.one ⟨pt, bh, ⟨ak, (f : Int), av, ae⟩, xv, ld⟩ = if pt < t.last then none else if ak = 0 ∨ ak = 3 then (if xv ≠ t.now.getD f 0 then none else some t.now) else if ak = 1 ∧ ld = false then none else if ak = 2 ∧ ld ≠ decide (t.now.getD f 0 = sl ae) then none else if ld = true then some (t.now.set f (sl av)) else some t.now := rfl
          replace hone : Hid _ := hone
          obtain ⟨nv, hnv⟩ : ∃ nv, t.now.getD f 0 = nv := ⟨_, rfl⟩
          rw [hnv] at nf
          replace hnv : Hid (t.now.getD f 0 = nv) := hnv
          have cE := slot_any ae (by omega)
          have cV := slot_any av (by omega)
          have fI : (f : Int) < 2 := by omega
          have fI0 : ¬ (f : Int) < 0 := by omega
          have onr : ∀ l, t.one ⟨pt, bh, ⟨ak, (f : Int), av, ae⟩, xv, ld⟩ = some l → Rgt.run ds (j + 1) = some ⟨t.used.set k true, l, pt⟩ := fun l h => by
            have := right_on hrun (by rw [hn.out]; exact hsel.out) (l := l) (by rw [hxe.out]; exact h)
            rw [hxe.out] at this; exact this
          have offr : t.one ⟨pt, bh, ⟨ak, (f : Int), av, ae⟩, xv, ld⟩ = none → rb = false := fun h => by
            rw [← hrb.out]
            exact right_no (by rw [hn.out]; exact hjn) hrun (by rw [hn.out]; exact hsel.out) (by rw [hxe.out]; exact h)
          rw [hone.out] at onr offr
          rw [hnv.out] at onr offr
          clear hone hrun hsel hxe
          replace onr : Hid _ := onr
          replace offr : Hid _ := offr
          by_cases hpl : pt < t.last
          · go_wp2
            go_ret
            refine ⟨?_, rr2.bel⟩
            rw [offr.out (by rw [if_pos hpl])]
            rfl
          · rcases o1 with rfl | rfl | rfl | rfl
            · by_cases hxv : xv = nv
              · subst hxv
                go_upto_region 22 with fail
                go_quiet (fail)
                have rr3 := rr2.below (Hh.below_drewN (Below.refl _ _) nq)
                go_wp2
                go_roundw
                case rel => exact ⟨j + 1, ⟨t.used.set k true, t.now, pt⟩, by omega, by go_num, rfl, onr.out _ (by first | (simp [show ¬ pt < t.last by omega]; done) | (simp [show ¬ pt < t.last by omega, hns]; done)), rr3⟩
                case measure => simp [intOf]; omega
              · have hxb : (xv == nv) = false := by simpa using hxv
                go_upto_region 22 with fail
                go_quiet (fail)
                have rr3 := rr2.below (Hh.below_drewN (Below.refl _ _) nq)
                go_wp2
                go_ret
                refine ⟨?_, rr3.bel⟩
                rw [offr.out (by (have hpl2 : ¬ pt < t.last := by omega); first | (simp [hpl2]; done) | (simp [hpl2, hns]; done) | (simp [hpl2, hxv]; done))]
                rfl
            · cases ld
              · go_wp2
                go_ret
                refine ⟨?_, rr2.bel⟩
                rw [offr.out (by (have hpl2 : ¬ pt < t.last := by omega); first | (simp [hpl2]; done) | (simp [hpl2, hns]; done) | (simp [hpl2, hxv]; done))]
                rfl
              · go_upto_region 26 with fail
                go_quiet (fail)
                have rr3 := rr2.below (Hh.below_drewN (Below.refl _ _) nq)
                have hX6 : Blk (w5.drewN nq) X _ 61 := hX
                generalize w5.drewN nq = w6 at *
                have nf6 : w6.cell? ⟨Nb, f, none⟩ = some (.int .i64 (t.now.getD f 0)) := Blk.cell (t := 3) rr3.n (by simp [show f < t.now.length by omega])
                have nfz6 : w6.frozen? ⟨Nb, f, none⟩ = false := Blk.free (t := 3) rr3.n f
                have p46 : w6.cell? ⟨X, 4, none⟩ = some (.int .i64 av) := hX6.cell rfl
                have p76 : w6.cell? ⟨X, 7, none⟩ = some (.bool true) := hX6.cell rfl
                go_wp2_with (go_at_call 34; with_reducible refine (cV _).mono ?_; rintro e w7 ⟨rfl, rfl⟩)
                have rr4 := rr3.setN f (sl av)
                go_roundw
                case rel => exact ⟨j + 1, ⟨t.used.set k true, t.now.set f (sl av), pt⟩, by omega, by go_num, rfl, onr.out _ (by first | (simp [show ¬ pt < t.last by omega]; done) | (simp [show ¬ pt < t.last by omega, hns]; done)), rr4⟩
                case measure => simp [intOf]; omega
            · obtain ⟨se, hse⟩ : ∃ se, sl ae = se := ⟨_, rfl⟩
              rw [hse] at cE onr offr
              clear hse
              have cE2 : ∀ w, Calls Tryz.prog 34 #[.int .i64 ae] w fun e w' => e = .returned (.int .i64 se) ∧ w' = w := fun w => (cE w).mono fun _ _ ⟨a, b⟩ => ⟨a, b.symm⟩
              clear cE
              cases ld
              · by_cases hns : nv = se
                · subst hns
                  go_upto_region 26 with fail
                  go_quiet (exact Calls.quiet_of_same (cE2 _))
                  have rr3 := rr2.below (Hh.below_drewN (Below.refl _ _) nq)
                  go_wp2
                  go_ret
                  refine ⟨?_, rr3.bel⟩
                  rw [offr.out (by (have hpl2 : ¬ pt < t.last := by omega); first | (simp [hpl2]; done) | (simp [hpl2, hns]; done) | (simp [hpl2, hxv]; done))]
                  rfl
                · have hnb : (nv == se) = false := by simpa using hns
                  go_upto_region 26 with fail
                  go_quiet (exact Calls.quiet_of_same (cE2 _))
                  have rr3 := rr2.below (Hh.below_drewN (Below.refl _ _) nq)
                  have hX6 : Blk (w5.drewN nq) X _ 61 := hX
                  generalize w5.drewN nq = w6 at *
                  have p76 : w6.cell? ⟨X, 7, none⟩ = some (.bool false) := hX6.cell rfl
                  go_wp2
                  go_roundw
                  case rel => exact ⟨j + 1, ⟨t.used.set k true, t.now, pt⟩, by omega, by go_num, rfl, onr.out _ (by first | (simp [show ¬ pt < t.last by omega]; done) | (simp [show ¬ pt < t.last by omega, hns]; done)), rr3⟩
                  case measure => simp [intOf]; omega
              · by_cases hns : nv = se
                · subst hns
                  go_upto_region 26 with fail
                  go_quiet (exact Calls.quiet_of_same (cE2 _))
                  have rr3 := rr2.below (Hh.below_drewN (Below.refl _ _) nq)
                  have hX6 : Blk (w5.drewN nq) X _ 61 := hX
                  generalize w5.drewN nq = w6 at *
                  have nf6 : w6.cell? ⟨Nb, f, none⟩ = some (.int .i64 (t.now.getD f 0)) := Blk.cell (t := 3) rr3.n (by simp [show f < t.now.length by omega])
                  have nfz6 : w6.frozen? ⟨Nb, f, none⟩ = false := Blk.free (t := 3) rr3.n f
                  have p46 : w6.cell? ⟨X, 4, none⟩ = some (.int .i64 av) := hX6.cell rfl
                  have p76 : w6.cell? ⟨X, 7, none⟩ = some (.bool true) := hX6.cell rfl
                  go_wp2_with (go_at_call 34; with_reducible refine (cV _).mono ?_; rintro e w7 ⟨rfl, rfl⟩)
                  have rr4 := rr3.setN f (sl av)
                  go_roundw
                  case rel => exact ⟨j + 1, ⟨t.used.set k true, t.now.set f (sl av), pt⟩, by omega, by go_num, rfl, onr.out _ (by first | (simp [show ¬ pt < t.last by omega]; done) | (simp [show ¬ pt < t.last by omega, hns]; done)), rr4⟩
                  case measure => simp [intOf]; omega
                · have hnb : (nv == se) = false := by simpa using hns
                  go_upto_region 26 with fail
                  go_quiet (exact Calls.quiet_of_same (cE2 _))
                  have rr3 := rr2.below (Hh.below_drewN (Below.refl _ _) nq)
                  go_wp2
                  go_ret
                  refine ⟨?_, rr3.bel⟩
                  rw [offr.out (by (have hpl2 : ¬ pt < t.last := by omega); first | (simp [hpl2]; done) | (simp [hpl2, hns]; done) | (simp [hpl2, hxv]; done))]
                  rfl
            · by_cases hxv : xv = nv
              · subst hxv
                go_upto_region 22 with fail
                go_quiet (fail)
                have rr3 := rr2.below (Hh.below_drewN (Below.refl _ _) nq)
                go_wp2
                go_roundw
                case rel => exact ⟨j + 1, ⟨t.used.set k true, t.now, pt⟩, by omega, by go_num, rfl, onr.out _ (by first | (simp [show ¬ pt < t.last by omega]; done) | (simp [show ¬ pt < t.last by omega, hns]; done)), rr3⟩
                case measure => simp [intOf]; omega
              · have hxb : (xv == nv) = false := by simpa using hxv
                go_upto_region 22 with fail
                go_quiet (fail)
                have rr3 := rr2.below (Hh.below_drewN (Below.refl _ _) nq)
                go_wp2
                go_ret
                refine ⟨?_, rr3.bel⟩
                rw [offr.out (by (have hpl2 : ¬ pt < t.last := by omega); first | (simp [hpl2]; done) | (simp [hpl2, hns]; done) | (simp [hpl2, hxv]; done))]
                rfl
    · have hjI : ¬ (j : Int) < (n : Int) := by omega
      obtain rfl : j = n := by omega
      go_wp2
      go_ret
      refine ⟨?_, rr.bel⟩
      rw [← hrb.out]
      unfold rightF
      rw [hn.out, hrun]
      rfl
end Go.Proofs.YtnegdabcjnhpdaaGreatDoor
