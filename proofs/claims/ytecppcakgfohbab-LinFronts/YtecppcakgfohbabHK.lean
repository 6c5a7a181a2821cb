/- Right histories, orders that respect: the plain half. -/
import Derived.Test.YtecppcakgfohbabHJ
namespace Go.Proofs.Ytecppcakgfohbab
open Go.RowKit Go.Sort

def okE (c : Int) (e : Ev) : Prop := 0 ≤ e.cl ∧ e.cl < c ∧ e.bg ≤ e.pt ∧ e.pt ≤ e.en
instance (c : Int) (e : Ev) : Decidable (okE c e) := by unfold okE; exact inferInstance
/-- What is asked of two events of a right history. -/
def twoE (e f : Ev) : Prop := e.cl = f.cl → e.op ≠ f.op ∧ (e.op < f.op → e.en < f.bg)
instance (e f : Ev) : Decidable (twoE e f) := by unfold twoE; exact inferInstance
def RightP (E : List Ev) (c : Int) : Prop := (∀ (i : Nat) (e : Ev), E[i]? = some e → okE c e) ∧ ∀ (i k : Nat) (e f : Ev), E[i]? = some e → E[k]? = some f → i ≠ k → twoE e f
/-- What is asked of neighbours in the order by clients. -/
def nxtE (e f : Ev) : Prop := e.cl = f.cl → e.op ≠ f.op ∧ e.en < f.bg
instance (e f : Ev) : Decidable (nxtE e f) := by unfold nxtE; exact inferInstance
def AdjP (E : List Ev) (l : List Nat) : Prop := ∀ (k a b : Nat) (e f : Ev), l[k]? = some a → l[k + 1]? = some b → E[a]? = some e → E[b]? = some f → nxtE e f
theorem rlO_le {E : List Ev} {a b : Nat} {e f : Ev} (he : E[a]? = some e) (hf : E[b]? = some f) (h : rl (ltN (evO E)) a b = true) : e.cl ≤ f.cl ∧ (e.cl = f.cl → e.op ≤ f.op) := by
  unfold rl at h
  simp only [ltN, evO, List.getD_eq_getElem?_getD, he, hf, Option.getD_some, Bool.or_eq_true, Bool.and_eq_true, Bool.not_eq_true', decide_eq_true_eq, decide_eq_false_iff_not, opI_lt] at h
  omega
theorem IsOrd.sm {lt : Nat → Nat → Bool} {n : Nat} {l : List Nat} (h : IsOrd lt n l) {k a : Nat} (hk : l[k]? = some a) : a < n := by
  have := h.perm.mem_iff.1 (List.mem_of_getElem? hk)
  simpa using this
theorem IsOrd.lr {lt : Nat → Nat → Bool} {n : Nat} {l : List Nat} (h : IsOrd lt n l) {p q a b : Nat} (hp : l[p]? = some a) (hq : l[q]? = some b) (hpq : p < q) : rl lt a b = true := by
  obtain ⟨h1, rfl⟩ := List.getElem?_eq_some_iff.1 hp
  obtain ⟨h2, rfl⟩ := List.getElem?_eq_some_iff.1 hq
  exact List.pairwise_iff_getElem.1 h.srt p q h1 h2 hpq
theorem adj_far {E : List Ev} {c : Int} {l : List Nat} (ok : ∀ (i : Nat) (e : Ev), E[i]? = some e → okE c e) (ho : IsOrd (ltN (evO E)) E.length l) (h : AdjP E l) : ∀ (d p a b : Nat) (e f : Ev), l[p]? = some a → l[p + d + 1]? = some b → E[a]? = some e → E[b]? = some f → e.cl = f.cl → e.op < f.op ∧ e.en < f.bg
  | 0, p, a, b, e, f, hp, hq, he, hf, hc => by
    have h1 := h p a b e f hp hq he hf hc
    have h2 := rlO_le he hf (ho.lr hp hq (by omega))
    have := h2.2 hc
    omega
  | d + 1, p, a, b, e, f, hp, hq, he, hf, hc => by
    have hlen := (List.getElem?_eq_some_iff.1 hq).1
    obtain ⟨m, hm⟩ : ∃ m, l[p + d + 1]? = some m := ⟨_, List.getElem?_eq_getElem (by omega)⟩
    obtain ⟨g, hg⟩ : ∃ g, E[m]? = some g := ⟨_, List.getElem?_eq_getElem (ho.sm hm)⟩
    have r1 := rlO_le he hg (ho.lr hp hm (by omega))
    have r2 := rlO_le hg hf (ho.lr hm hq (by omega))
    have e1 : e.cl = g.cl := by omega
    have e2 : g.cl = f.cl := by omega
    have i1 := adj_far ok ho h d p a m e g hp hm he hg e1
    have i2 := h (p + d + 1) m b g f hm hq hg hf e2
    have i3 := r2.2 e2
    obtain ⟨_, _, k1, k2⟩ := ok m g hg
    omega
theorem right_iff {E : List Ev} {c : Int} {l : List Nat} (ho : IsOrd (ltN (evO E)) E.length l) : ((∀ (i : Nat) (e : Ev), E[i]? = some e → okE c e) ∧ AdjP E l) ↔ RightP E c := by
  constructor
  · rintro ⟨ok, h⟩
    refine ⟨ok, fun i k e f hi hk hik hc => ?_⟩
    have mem : ∀ i, i < E.length → ∃ p, l[p]? = some i := fun i hi => by
      have : i ∈ l := ho.perm.mem_iff.2 (by simpa using hi)
      obtain ⟨p, hp, e⟩ := List.getElem_of_mem this
      exact ⟨p, by rw [List.getElem?_eq_getElem hp, e]⟩
    obtain ⟨p, hp⟩ := mem i (List.getElem?_eq_some_iff.1 hi).1
    obtain ⟨q, hq⟩ := mem k (List.getElem?_eq_some_iff.1 hk).1
    rcases Nat.lt_trichotomy p q with hl | hl | hl
    · obtain ⟨d, rfl⟩ : ∃ d, q = p + d + 1 := ⟨q - p - 1, by omega⟩
      have := adj_far ok ho h d p i k e f hp hq hi hk hc
      omega
    · subst hl; rw [hp] at hq; exact absurd (Option.some.inj hq) hik
    · obtain ⟨d, rfl⟩ : ∃ d, p = q + d + 1 := ⟨p - q - 1, by omega⟩
      have := adj_far ok ho h d q k i f e hq hp hk hi hc.symm
      omega
  · rintro ⟨ok, h⟩
    refine ⟨ok, fun k a b e f hk hk1 he hf hc => ?_⟩
    have r := ho.lr hk hk1 (by omega)
    have hab : a ≠ b := rl_ne (evO_swo E) r
    have r1 := rlO_le he hf r
    have := h a b e f he hf hab hc
    have := r1.2 hc
    omega

/-- An order that respects a history. -/
def RespP (E : List Ev) (O : List Int) : Prop :=
  O.length = E.length ∧ (∀ (k : Nat) (x : Int), O[k]? = some x → 0 ≤ x ∧ x < E.length) ∧ (∀ (j k : Nat) (x y : Int), O[j]? = some x → O[k]? = some y → j < k → x ≠ y) ∧
    ∀ (j k : Nat) (x y : Int) (e f : Ev), O[j]? = some x → O[k]? = some y → j < k → E[x.toNat]? = some e → E[y.toNat]? = some f → ¬ f.en < e.bg
/-- .. as far as its first k numbers go. -/
structure RsK (E : List Ev) (O : List Int) (k : Nat) : Prop where
  rg : ∀ (j : Nat) (x : Int), j < k → O[j]? = some x → 0 ≤ x ∧ x < E.length
  nd : ∀ (i j : Nat) (x y : Int), i < j → j < k → O[i]? = some x → O[j]? = some y → x ≠ y
  ah : ∀ (i j : Nat) (x y : Int) (e f : Ev), i < j → j < k → O[i]? = some x → O[j]? = some y → E[x.toNat]? = some e → E[y.toNat]? = some f → ¬ f.en < e.bg
theorem RsK.start (E : List Ev) (O : List Int) : RsK E O 0 := ⟨fun _ _ h => by omega, fun _ _ _ _ _ h => by omega, fun _ _ _ _ _ _ _ h => by omega⟩
theorem RsK.all {E : List Ev} {O : List Int} (h : RsK E O O.length) (hl : O.length = E.length) : RespP E O :=
  ⟨hl, fun k x hk => h.rg k x (List.getElem?_eq_some_iff.1 hk).1 hk, fun j k x y hj hk hjk => h.nd j k x y hjk (List.getElem?_eq_some_iff.1 hk).1 hj hk, fun j k x y e f hj hk hjk he hf => h.ah j k x y e f hjk (List.getElem?_eq_some_iff.1 hk).1 hj hk he hf⟩
theorem RsK.step {E : List Ev} {O : List Int} {k : Nat} {x : Int} {f : Ev} (h : RsK E O k) (hx : O[k]? = some x) (h0 : 0 ≤ x ∧ x < E.length) (hn : ∀ (j : Nat) (y : Int), j < k → O[j]? = some y → y ≠ x) (hf : E[x.toNat]? = some f) (ha : ∀ (j : Nat) (y : Int) (e : Ev), j < k → O[j]? = some y → E[y.toNat]? = some e → ¬ f.en < e.bg) : RsK E O (k + 1) := by
  refine ⟨fun j y hj hy => ?_, fun i j y z hij hj hy hz => ?_, fun i j y z e g hij hj hy hz he hg => ?_⟩
  · by_cases e : j = k
    · subst e; rw [hx] at hy; obtain rfl := Option.some.inj hy; exact h0
    · exact h.rg j y (by omega) hy
  · by_cases e : j = k
    · subst e; rw [hx] at hz; obtain rfl := Option.some.inj hz; exact hn i y hij hy
    · exact h.nd i j y z hij (by omega) hy hz
  · by_cases e' : j = k
    · subst e'; rw [hx] at hz; obtain rfl := Option.some.inj hz
      rw [hf] at hg; obtain rfl := Option.some.inj hg
      exact ha i y e hij hy he
    · exact h.ah i j y z e g hij (by omega) hy hz he hg
end Go.Proofs.Ytecppcakgfohbab
