/- Contracts of package sweep's Reclaim: the freeing, and its Step; the makers. -/
import Derived.Test.YteechgmjaagbmabDoorBRe
namespace Go.Proofs.YteechgmjaagbmabDoor
open Go.RowKit
open Mm (IsMem MS touched Only IsWords)
open Hh (WT wordOf okW Hr)

/-- What a Free's step leaves of a Reclaim's other cells. -/
theorem ReAt.freed {c c' : Array Value} {o : Nat} {K : Cf} {m : Re} {f : Fr} (h : ReAt c o K m) (hf : FrAt c' (o + 10) K f) (s : Same c c' (o + 10) (o + 10 + 14)) : ReAt c' o K { m with f := f } :=
  ⟨(s.out _ (by omega)).trans h.back, (s.out _ (by omega)).trans h.gone, (s.out _ (by omega)).trans h.k0, (s.out _ (by omega)).trans h.k1, (s.out _ (by omega)).trans h.k2, (s.out _ (by omega)).trans h.k3, (s.out _ (by omega)).trans h.k4, (s.out _ (by omega)).trans h.k5, (s.out _ (by omega)).trans h.pc, (s.out _ (by omega)).trans h.sl, hf.tys, fun _ => hf⟩

set_option maxHeartbeats 2000000 in
theorem rfree_more {w : World} {M G N P o : Nat} {X' : List Nat} {T' : Int} {c : Array Value} {t : TypeId} {K : Cf} {m : Re} {f : Fr} (hm : ReAt c o K m)
    (c0 : Calls Tryd.prog 54 #[.pointer (some ⟨P, o + 10, none⟩), .pointer (some ⟨M, 0, none⟩)] w fun r w' => r = .returned (.bool false) ∧ ∃ c', InA w w' M G N X' T' P c' t ∧ FrAt c' (o + 10) K f ∧ Same c c' (o + 10) (o + 10 + 14)) :
    Calls Tryd.prog 41 #[.pointer (some ⟨P, o, none⟩), .pointer (some ⟨M, 0, none⟩)] w fun r w' => r = .returned (.tuple #[]) ∧ ∃ c', InA w w' M G N X' T' P c' t ∧ ReAt c' o K { m with f := f } ∧ Same c c' o (o + 24) := by
  have hp : ∀ c', Same c c' (o + 10) (o + 10 + 14) → FrAt c' (o + 10) K f → ReAt c' o K { m with f := f } := fun c' s p => hm.freed p s
  clear hm
  go_enter Tryd.func41, Tryd.ntmps41
  go_wp2_with (go_at_call 54; refine c0.mono ?_; rintro e w1 ⟨rfl, c1, i1, p1, s1⟩)
  exact bodyPost_ret (results_none rfl _ _ _) rfl ⟨rfl, c1, i1, hp _ s1 p1, s1.mono (by omega) (by omega)⟩

set_option maxHeartbeats 4000000 in
theorem rfree_done {w : World} {M G N P o : Nat} {X' : List Nat} {T' : Int} {c : Array Value} {t : TypeId} {K : Cf} {m : Re} {f : Fr} (hm : ReAt c o K m) (hl : m.sl < 64) (hb : m.back < 4611686018427387904) (hg : m.gone < 4611686018427387904)
    (c0 : Calls Tryd.prog 54 #[.pointer (some ⟨P, o + 10, none⟩), .pointer (some ⟨M, 0, none⟩)] w fun r w' => r = .returned (.bool true) ∧ ∃ c', InA w w' M G N X' T' P c' t ∧ FrAt c' (o + 10) K f ∧ Same c c' (o + 10) (o + 10 + 14)) :
    Calls Tryd.prog 41 #[.pointer (some ⟨P, o, none⟩), .pointer (some ⟨M, 0, none⟩)] w fun r w' => r = .returned (.tuple #[]) ∧ ∃ c', InA w w' M G N X' T' P c' t ∧ ReAt c' o K (reNext K { m with f := f, back := m.back + f.back.toNat, gone := m.gone + f.gone.toNat }) ∧ Same c c' o (o + 24) := by
  have hp : ∀ c', Same c c' (o + 10) (o + 10 + 14) → FrAt c' (o + 10) K f → ReAt c' o K { m with f := f } := fun c' s p => hm.freed p s
  have hn5 : ∀ wr c1 (m' : Re), m'.sl = m.sl → InA w wr M G N X' T' P c1 t → ReAt c1 o K m' → Calls Tryd.prog 52 #[.pointer (some ⟨P, o, none⟩)] wr fun r w' => r = .returned (.tuple #[]) ∧ ∃ c'', InA w w' M G N X' T' P c'' t ∧ ReAt c'' o K (reNext K m') ∧ Same c1 c'' o (o + 24) := fun wr c1 m' hs x y =>
    (rnext_as x.restart y (by omega)).mono fun r w' ⟨h1, c'', h2, h3, h4⟩ => ⟨h1, c'', x.join h2, h3, h4⟩
  have HN : Hid (∀ wr c1 (m' : Re), m'.sl = m.sl → InA w wr M G N X' T' P c1 t → ReAt c1 o K m' → _) := hn5
  have e1 : IntKind.i64.wrap ((m.back : Int) + 1) = ((m.back + 1 : Nat) : Int) := by rw [IntKind.wrap_i64]; omega
  have e2 : IntKind.i64.wrap ((m.gone : Int) + 1) = ((m.gone + 1 : Nat) : Int) := by rw [IntKind.wrap_i64]; omega
  clear hm hn5 hl hb hg
  obtain ⟨back, gone, pc, sl, f0⟩ := m
  obtain ⟨fb, fg, fq, fpc, fd⟩ := f
  simp only at *
  have hpb : ∀ c', FrAt c' (o + 10) K ⟨fb, fg, fq, fpc, fd⟩ → c'[o + 10]? = some (.bool fb) ∧ c'[o + 10 + 1]? = some (.bool fg) := fun c' h => ⟨h.back, h.gone⟩
  generalize hb1 : back + 1 = b1 at *
  generalize hg1 : gone + 1 = g1 at *
  go_enter Tryd.func41, Tryd.ntmps41
  go_upto_region 1 with (go_at_call 54; refine c0.mono ?_; rintro e w1 ⟨rfl, c1, i1, p1, s1⟩)
  have r1 := hp _ s1 p1
  obtain ⟨hcb, hcg⟩ := hpb _ p1
  have s2 : Same c c1 o (o + 24) := s1.mono (by omega) (by omega)
  clear hp hpb c0 p1 s1
  have l10 := i1.cell hcb
  have l11 := i1.cell hcg
  have l0 := i1.cell r1.back
  have l1 := i1.cell r1.gone
  have f0' := i1.free o
  have f1' := i1.free (o + 1)
  simp only at l0 l1
  cases fb
  · skip
    go_upto_region 3 with fail
    clear l10 l0 f0'
    cases fg
    · have q5 := HN.out _ _ _ rfl i1 r1
      clear HN e1 e2
      go_wp2_with (go_at_call 52; refine q5.mono ?_; rintro e w8 ⟨rfl, c8, i8, n8, s8⟩)
      go_end0
      exact ⟨rfl, _, i8, n8, s2.trans s8⟩
    · have r3 := r1.put_gone g1
      have s4 := s2.trans (Same.set _ (i := o + 1) (.int .i64 (g1 : Nat)) (by omega))
      replace i1 := i1.set (o + 1) (.int .i64 (g1 : Nat))
      go_upto_region 5 with fail
      clear l1 f1' l11
      generalize w1.setCell ⟨P, o + 1, none⟩ (.int .i64 (g1 : Nat)) = w3 at *
      have q5 := HN.out _ _ _ rfl i1 r3
      clear HN e1 e2
      go_wp2_with (go_at_call 52; refine q5.mono ?_; rintro e w8 ⟨rfl, c8, i8, n8, s8⟩)
      go_end0
      subst hg1
      exact ⟨rfl, _, i8, n8, s4.trans s8⟩
  · skip
    have r2 := r1.put_back b1
    replace i1 := i1.set o (.int .i64 (b1 : Nat))
    go_upto_region 3 with fail
    clear l0 f0' l1 l10 l11 f1'
    generalize w1.setCell ⟨P, o, none⟩ (.int .i64 (b1 : Nat)) = w2 at *
    have s3 := s2.trans (Same.set c1 (i := o) (.int .i64 (b1 : Nat)) (by omega))
    have l11 := i1.cell ((get_set_ne (c := c1) (v := .int .i64 (b1 : Nat)) (by omega : o ≠ o + 10 + 1)).trans hcg)
    have l1 := i1.cell r2.gone
    have f1' := i1.free (o + 1)
    simp only at l1
    cases fg
    · have q5 := HN.out _ _ _ rfl i1 r2
      clear HN e1 e2
      go_wp2_with (go_at_call 52; refine q5.mono ?_; rintro e w8 ⟨rfl, c8, i8, n8, s8⟩)
      go_end0
      subst hb1
      exact ⟨rfl, _, i8, n8, s3.trans s8⟩
    · have r3 := r2.put_gone g1
      have s4 := s3.trans (Same.set _ (i := o + 1) (.int .i64 (g1 : Nat)) (by omega))
      replace i1 := i1.set (o + 1) (.int .i64 (g1 : Nat))
      go_upto_region 5 with fail
      clear l1 f1' l11
      generalize w2.setCell ⟨P, o + 1, none⟩ (.int .i64 (g1 : Nat)) = w3 at *
      have q5 := HN.out _ _ _ rfl i1 r3
      clear HN e1 e2
      go_wp2_with (go_at_call 52; refine q5.mono ?_; rintro e w8 ⟨rfl, c8, i8, n8, s8⟩)
      go_end0
      subst hb1
      subst hg1
      exact ⟨rfl, _, i8, n8, s4.trans s8⟩

set_option maxHeartbeats 1000000 in
theorem re_call {w : World} {M G N P o : Nat} {X X' : List Nat} {T T' : Int} {c : Array Value} {t : TypeId} {K : Cf} {m m' : Re} {fn : Nat} (is : InA w w M G N X T P c t) (hm : ReAt c o K m) (h1 : m.pc = 0 ∧ fn = 40 ∨ m.pc = 1 ∧ fn = 41)
    (c0 : Calls Tryd.prog fn #[.pointer (some ⟨P, o, none⟩), .pointer (some ⟨M, 0, none⟩)] w fun r w' => r = .returned (.tuple #[]) ∧ ∃ c', InA w w' M G N X' T' P c' t ∧ ReAt c' o K m' ∧ Same c c' o (o + 24)) :
    Calls Tryd.prog 25 #[.pointer (some ⟨P, o, none⟩), .pointer (some ⟨M, 0, none⟩)] w fun r w' => r = .returned (.bool (decide (m'.pc = 2))) ∧ ∃ c', InA w w' M G N X' T' P c' t ∧ ReAt c' o K m' ∧ Same c c' o (o + 24) := by
  have l8 := is.cell hm.pc
  have hd : ((m'.pc : Int) == 2) = decide (m'.pc = 2) := by by_cases e : m'.pc = 2 <;> simp [e]; omega
  rw [← hd]
  rcases h1 with ⟨h1, rfl⟩ | ⟨h1, rfl⟩
  all_goals
    rw [h1] at l8
    clear hm hd h1 is
    go_enter Tryd.func25, Tryd.ntmps25
    go_wp2_with (first
      | (go_at_call 40; refine c0.mono ?_; rintro e w1 ⟨rfl, c1, i1, p1, s1⟩; have m8 := i1.cell p1.pc)
      | (go_at_call 41; refine c0.mono ?_; rintro e w1 ⟨rfl, c1, i1, p1, s1⟩; have m8 := i1.cell p1.pc))
    go_ret
    exact ⟨rfl, c1, i1, p1, s1⟩
set_option maxHeartbeats 1000000 in
theorem re_end {w : World} {P o : Nat} (l8 : w.cell? ⟨P, o + 8, none⟩ = some (.int .i64 2)) (q : Value) :
    Calls Tryd.prog 25 #[.pointer (some ⟨P, o, none⟩), q] w fun r w' => r = .returned (.bool true) ∧ w = w' := by
  go_enter Tryd.func25, Tryd.ntmps25
  go_wp2
  go_ret
  exact ⟨rfl, rfl⟩
set_option maxHeartbeats 1000000 in
theorem re_nil (q : Value) (w : World) : Calls Tryd.prog 25 #[.pointer none, q] w fun r w' => r = .returned (.bool true) ∧ w = w' := by
  go_enter Tryd.func25, Tryd.ntmps25
  go_wp2
  go_ret
  exact ⟨rfl, rfl⟩

/-- What keeps a Reclaim's next step from falling. -/
structure Re.Ok (r : Re) (K : Cf) : Prop where
  pc : r.pc ≤ 2
  sl : r.pc ≤ 1 → r.sl < K.S
  back : r.back ≤ r.sl
  gone : r.gone ≤ r.sl
  f : r.pc = 1 → r.f.Ok K ∧ r.f.pc ≤ 2

/-- A Reclaim's step. -/
theorem re_any {w : World} {M G P o : Nat} {X : List Nat} {T : Int} {c : Array Value} {t : TypeId} {K : Cf} {r : Re} (hK : K.Ok) (is : InA w w M G K.N X T P c t) (hs : ReAt c o K r) (hk : r.Ok K) (h2 : r.pc ≤ 1) (hT : T + 1 < 4611686018427387904) :
    Calls Tryd.prog 25 #[.pointer (some ⟨P, o, none⟩), .pointer (some ⟨M, 0, none⟩)] w fun r' w' => r' = .returned (.bool (decide ((reX K X r).2.pc = 2))) ∧ ∃ c', InA w w' M G K.N (reX K X r).1 (T + 1) P c' t ∧ ReAt c' o K (reX K X r).2 ∧ Same c c' o (o + 24) := by
  have hsl := hk.sl h2
  have h64 := hK.s64
  have hb := hk.back
  have hg := hk.gone
  have h3 : r.pc = 0 ∨ r.pc = 1 := by omega
  rcases h3 with h | h
  · by_cases hc : kdW (X.getD (K.hd r.sl) 0) = 3
    · have e : reX K X r = (X, { r with f := fr0 r.sl, pc := 1 }) := by unfold reX; rw [if_pos h, if_pos hc]
      rw [e]
      exact re_call is hs (.inl ⟨h, rfl⟩) (rload_yes is hs hT (K.hd_lt hsl) rfl rfl hc (fun w => header_at hK hsl rfl w) (fun w => newFree_yes hK hsl w))
    · have e : reX K X r = (X, reNext K r) := by unfold reX; rw [if_pos h, if_neg hc]
      rw [e]
      exact re_call is hs (.inl ⟨h, rfl⟩) (rload_not is hs hT (K.hd_lt hsl) rfl (by omega) hc (fun w => header_at hK hsl rfl w))
  · have hf := hk.f h
    have c0 := fr_any hK is (hs.f h) hf.1 hf.2 hT
    by_cases hc : (frX K X r.f).2.pc = 3
    · have e : reX K X r = ((frX K X r.f).1, reNext K { r with f := (frX K X r.f).2, back := r.back + (frX K X r.f).2.back.toNat, gone := r.gone + (frX K X r.f).2.gone.toNat }) := by unfold reX; rw [if_neg (by omega), if_pos h, if_pos hc]
      rw [e]
      rw [decide_eq_true hc] at c0
      exact re_call is hs (.inr ⟨h, rfl⟩) (rfree_done hs (by omega) (by omega) (by omega) c0)
    · have e : reX K X r = ((frX K X r.f).1, { r with f := (frX K X r.f).2 }) := by unfold reX; rw [if_neg (by omega), if_pos h, if_neg hc]
      rw [e]
      rw [decide_eq_false hc] at c0
      exact re_call is hs (.inr ⟨h, rfl⟩) (rfree_more hs c0)
end Go.Proofs.YteechgmjaagbmabDoor
