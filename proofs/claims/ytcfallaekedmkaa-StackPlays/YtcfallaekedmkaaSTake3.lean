/- One step of a taker whose machine is under way; and of any taker. -/
import Derived.Test.YtcfallaekedmkaaSTake2
namespace Go.Proofs.Ytcfallaekedmkaa
open Go.RowKit
open Mm (IsMem MS zeroMS)
set_option linter.unusedVariables false

theorem mem4 {P M G L i : Nat} (h : i ∈ [P, M, G, L]) : i = P ∨ i = M ∨ i = G ∨ i = L := by simpa using h

theorem step_pop {w : World} {base M G L o : Nat} {K : Cf} {m : MS} {tag : Nat} {F : List Nat} {cur : Array Value} {hv : Value} {has : List Nat} {wa : Option Addr} {wk : List Bool} {wc : Nat} {la : Int} {P : Nat} {p : PS} (h : Ask w base M G L o K m tag F cur ⟨hv, has, wa, wk, wc, .pop P p, la⟩) :
    Calls Try.prog 12 #[.pointer (some ⟨L, o, none⟩), .agg K.cs, .pointer (some ⟨M, 0, none⟩)] w fun e w' => e = .returned (.bool true) ∧ ∃ m' tag' F' cur' t', Left w w' base M G L o K m tag F cur ⟨hv, has, wa, wk, wc, .pop P p, la⟩ m' tag' F' cur' t' := by
  obtain ⟨hK, hm, tp, ht, htag, hr, hL, tk, inv, sp, hhold, hlen, hb⟩ := h
  have hX : ∀ i, m.X.getD i 0 < 18446744073709551616 := fun i => hm.word_lt i
  obtain ⟨c0, c1, c2, c3, c4, i0, hwk, hwc, hp⟩ := tk
  obtain ⟨hpw, hpi, hp1, hp2⟩ := inv
  simp only at c0 c1 c2 c3 c4 i0 hwk hwc hlen
  replace hp : IsPopS w P K p := hp
  have hsz := lt_of_get c4
  have hown : Tk.own ⟨hv, has, wa, wk, wc, .pop P p, la⟩ = hv.ownBlock.toList ++ [P] := rfl
  have hv0 : ∀ r, hv.ownBlock = some r → r ≠ M ∧ r ≠ G ∧ r ≠ L := fun r hr' => by
    have := sp.far r (own_hv (t := ⟨hv, has, wa, wk, wc, .pop P p, la⟩) hr')
    exact ⟨this.1, this.2.1, this.2.2.1⟩
  have hPf := sp.far P (by rw [hown]; simp)
  have hv0P : ∀ r, hv.ownBlock = some r → r ≠ P := fun r hr' e => by
    have hn := sp.nd
    rw [hown, hr'] at hn
    simp [e] at hn
  have hvb : ∀ r, hv.ownBlock = some r → base ≤ r := fun r hr' => (sp.far r (own_hv (t := ⟨hv, has, wa, wk, wc, .pop P p, la⟩) hr')).2.2.2
  have ht' := popStep_t K m p
  have hwf := popStep_wf (m := m) hpw hX
  have hb4 : ∀ i ∈ [P, M, G, L], base ≤ i := fun i hi => by rcases mem4 hi with rfl | rfl | rfl | rfl <;> omega
  have hc4 : ∀ i ∈ [P, M, G, L], i ∈ [M, G, L] ++ Tk.own ⟨hv, has, wa, wk, wc, .pop P p, la⟩ := fun i hi => by
    rw [hown]
    rcases mem4 hi with rfl | rfl | rfl | rfl <;> simp
  rcases popCases hK tp hpi htag with ⟨g1, eX, g3, g4, g5⟩ | ⟨rfl, g1, eX, g3, g4⟩ | ⟨s, F', rfl, g1, g3, g4, ⟨v, eX⟩, g5⟩
  · refine (stp_pop_go hK hm tp ht hr hL c0 c1 c4 i0 hv0 c2 c3 hp ⟨hPf.1, hPf.2.1, hPf.2.2.1⟩ hv0P (cst_pop hK tp ht hpw hPf.1 hPf.2.1 false (decide_eq_false (by omega))) (by rw [eX]; exact tp) ⟨ht'.2, by omega⟩).mono fun e w' ⟨he, hm', hp', hr', i0', ch⟩ => ⟨he, (popStep K m p).1, tag, F, cur, ⟨hv, has, wa, wk, wc, .pop P (popStep K m p).2, la⟩, ?_⟩
    exact ⟨hm', by rw [eX]; exact tp, ⟨by omega, ht'.2⟩, by omega, hr', rfl, fun _ _ => rfl, ⟨c0, c1, c2, c3, c4, i0', hwk.chg ch hb4 hb.1, hwc, hp'⟩, ⟨hwf, by rw [eX]; exact g5, g3.trans hp1, g4.trans hp2⟩, .inl ⟨eX, rfl, rfl⟩, List.Perm.refl _, sp.nd, fun b hb => .inl hb, ch.mono (fun i hi => .inl (hc4 i hi))⟩
  · refine (stp_pop_empty (F := []) hK hm tp ht hr hL c0 c1 c4 i0 hv0 c2 c3 hp ⟨hPf.1, hPf.2.1, hPf.2.2.1⟩ hv0P (cst_pop hK tp ht hpw hPf.1 hPf.2.1 true (decide_eq_true g1)) (by rw [eX]; exact tp) ⟨ht'.2, by omega⟩ (g4.trans hp1) g3).mono fun e w' ⟨he, hm', hr', i0', ch⟩ => ⟨he, (popStep K m p).1, tag, [], cur.setIfInBounds (o + 2) (.pointer none), ⟨hv, has, wa, wk, wc, .idle, la⟩, ?_⟩
    refine ⟨hm', by rw [eX]; exact tp, ⟨by omega, ht'.2⟩, by omega, hr', by simp, fun j hj => set_ne (by omega), ⟨(set_ne (by omega)).trans c0, (set_ne (by omega)).trans c1, set_eq c2, (set_ne (by omega)).trans c3, (set_ne (by omega)).trans c4, i0', hwk.chg ch hb4 hb.1, hwc, trivial⟩, trivial, .inl ⟨eX, rfl, rfl⟩, List.Perm.refl _, ?_, ?_, ch.mono (fun i hi => .inl (hc4 i hi))⟩
    · show (hv.ownBlock.toList ++ []).Nodup
      have hn := sp.nd
      rw [hown] at hn
      rw [List.append_nil]
      exact (List.nodup_append.1 hn).1
    · intro x hx
      have hx' : x ∈ hv.ownBlock.toList ++ [] := hx
      rw [List.append_nil] at hx'
      exact .inl (by rw [hown]; exact List.mem_append_left _ hx')
  · refine (stp_pop_done hK hm tp ht hr hL c0 c1 c4 i0 hv0 c2 c3 hp ⟨hPf.1, hPf.2.1, hPf.2.2.1⟩ hv0P hlen (cst_pop hK tp ht hpw hPf.1 hPf.2.1 true (decide_eq_true g1)) g5 ⟨ht'.2, by omega⟩ g3 (g4.trans hp2)).mono fun e w' ⟨he, hm', v', hI', hr', ch, hpl⟩ => ⟨he, (popStep K m p).1, tag + 1, F', (cur.setIfInBounds (o + 2) (.pointer none)).setIfInBounds o v', ⟨v', has ++ [s], wa, wk, wc, .idle, la⟩, ?_⟩
    have hmem : ∀ i ∈ P :: M :: G :: L :: hv.ownBlock.toList, base ≤ i ∧ i ∈ [M, G, L] ++ Tk.own ⟨hv, has, wa, wk, wc, .pop P p, la⟩ := fun i hi => by
      have hi' : i ∈ [P, M, G, L] ++ hv.ownBlock.toList := hi
      rcases List.mem_append.1 hi' with h | h
      · exact ⟨hb4 i h, hc4 i h⟩
      · have hx : hv.ownBlock = some i := by simpa using h
        exact ⟨hvb i hx, by rw [hown, hx]; simp⟩
    refine ⟨hm', g5, ⟨by omega, ht'.2⟩, by omega, hr', by simp, fun j hj => (set_ne (by omega)).trans (set_ne (by omega)), ⟨set_eq ((set_ne (by omega)).trans c0), (set_ne (by omega)).trans ((set_ne (by omega)).trans c1), (set_ne (by omega)).trans (set_eq c2), (set_ne (by omega)).trans ((set_ne (by omega)).trans c3), (set_ne (by omega)).trans ((set_ne (by omega)).trans c4), hI', hwk.chg ch (fun i hi => (hmem i hi).1) hb.1, hwc, trivial⟩, trivial, .inr (.inr ⟨v, eX, rfl⟩), ?_, ?_, ?_, ch.mono (fun i hi => .inl (hmem i hi).2)⟩
    · show (F' ++ ((has ++ [s]) ++ [])).Perm ((s :: F') ++ (has ++ []))
      rw [List.append_nil, List.append_nil, ← List.append_assoc]
      exact List.perm_append_singleton s (F' ++ has)
    · show (v'.ownBlock.toList ++ []).Nodup
      rw [List.append_nil]
      cases v'.ownBlock <;> simp
    · intro x hx
      have hx' : x ∈ v'.ownBlock.toList ++ [] := hx
      rw [List.append_nil] at hx'
      have hx2 : v'.ownBlock = some x := by simpa using hx'
      rcases hpl with e | ⟨g, e, hg⟩
      · exact .inl (by rw [hown, ← e, hx2]; simp)
      · rw [hx2] at e
        simp at e
        exact .inr (by omega)

theorem step_push {w : World} {base M G L o : Nat} {K : Cf} {m : MS} {tag : Nat} {F : List Nat} {cur : Array Value} {hv : Value} {has : List Nat} {wa : Option Addr} {wk : List Bool} {wc : Nat} {la : Int} {P : Nat} {q : QS} (h : Ask w base M G L o K m tag F cur ⟨hv, has, wa, wk, wc, .push P q, la⟩) :
    Calls Try.prog 12 #[.pointer (some ⟨L, o, none⟩), .agg K.cs, .pointer (some ⟨M, 0, none⟩)] w fun e w' => e = .returned (.bool true) ∧ ∃ m' tag' F' cur' t', Left w w' base M G L o K m tag F cur ⟨hv, has, wa, wk, wc, .push P q, la⟩ m' tag' F' cur' t' := by
  obtain ⟨hK, hm, tp, ht, htag, hr, hL, tk, inv, sp, hhold, hlen, hb⟩ := h
  have hX : ∀ i, m.X.getD i 0 < 18446744073709551616 := fun i => hm.word_lt i
  obtain ⟨c0, c1, c2, c3, c4, i0, hwk, hwc, hp⟩ := tk
  obtain ⟨hpw, hpi, hp1⟩ := inv
  simp only at c0 c1 c2 c3 c4 i0 hwk hwc hlen hp1
  replace hp : IsPushS w P K q := hp
  have hsz := lt_of_get c4
  have hown : Tk.own ⟨hv, has, wa, wk, wc, .push P q, la⟩ = hv.ownBlock.toList ++ [P] := rfl
  have hv0 : ∀ r, hv.ownBlock = some r → r ≠ M ∧ r ≠ G ∧ r ≠ L := fun r hr' => by
    have := sp.far r (own_hv (t := ⟨hv, has, wa, wk, wc, .push P q, la⟩) hr')
    exact ⟨this.1, this.2.1, this.2.2.1⟩
  have hPf := sp.far P (by rw [hown]; simp)
  have hv0P : ∀ r, hv.ownBlock = some r → r ≠ P := fun r hr' e => by
    have hn := sp.nd
    rw [hown, hr'] at hn
    simp [e] at hn
  have ht' := pushStep_t K m q
  have hwf := pushStep_wf (m := m) hpw hX
  have hb4 : ∀ i ∈ [P, M, G, L], base ≤ i := fun i hi => by rcases mem4 hi with rfl | rfl | rfl | rfl <;> omega
  have hc4 : ∀ i ∈ [P, M, G, L], i ∈ [M, G, L] ++ Tk.own ⟨hv, has, wa, wk, wc, .push P q, la⟩ := fun i hi => by
    rw [hown]
    rcases mem4 hi with rfl | rfl | rfl | rfl <;> simp
  have hq := hhold q.sl (by simp [Tk.hold, Mc.lay])
  rcases pushCases hK tp hpi hq.1 hq.2 htag with ⟨g1, g2, g3, g4, g5⟩ | ⟨g1, ⟨v, eX⟩, g3⟩
  · refine (stp_push_go hK hm tp ht hr hL c0 c1 c4 i0 hv0 c2 c3 hp ⟨hPf.1, hPf.2.1, hPf.2.2.1⟩ hv0P (cst_push hK tp ht hpw hPf.1 hPf.2.1 false (decide_eq_false (by omega))) g4 ⟨ht'.2, by omega⟩).mono fun e w' ⟨he, hm', hp', hr', i0', ch⟩ => ⟨he, (pushStep K m q).1, tag, F, cur, ⟨hv, has, wa, wk, wc, .push P (pushStep K m q).2, la⟩, ?_⟩
    refine ⟨hm', g4, ⟨by omega, ht'.2⟩, by omega, hr', rfl, fun _ _ => rfl, ⟨c0, c1, c2, c3, c4, i0', hwk.chg ch hb4 hb.1, hwc, hp'⟩, ⟨hwf.1, g3, by rw [g2]; exact hp1⟩, ?_, ?_, sp.nd, fun b hb => .inl hb, ch.mono (fun i hi => .inl (hc4 i hi))⟩
    · rcases g5 with e5 | ⟨v, e5⟩
      · exact .inl ⟨e5, rfl, rfl⟩
      · exact .inr (.inl ⟨v, q.sl, by simp [Tk.hold, Mc.lay], e5, rfl, rfl⟩)
    · show (F ++ (has ++ [(pushStep K m q).2.sl])).Perm (F ++ (has ++ [q.sl]))
      rw [g2]
  · subst hp1
    refine (stp_push_done hK hm tp ht hr hL c0 c1 c4 i0 hv0 c2 c3 hp ⟨hPf.1, hPf.2.1, hPf.2.2.1⟩ hv0P (cst_push hK tp ht hpw hPf.1 hPf.2.1 true (decide_eq_true g1)) g3 ⟨ht'.2, by omega⟩).mono fun e w' ⟨he, hm', hr', i0', ch⟩ => ⟨he, (pushStep K m q).1, tag + 1, q.sl :: F, (cur.setIfInBounds (o + 2) (.pointer none)).setIfInBounds (o + 3) (.pointer none), ⟨hv, has, wa, wk, wc, .idle, q.sl⟩, ?_⟩
    refine ⟨hm', g3, ⟨by omega, ht'.2⟩, by omega, hr', by simp, fun j hj => (set_ne (by omega)).trans (set_ne (by omega)), ⟨(set_ne (by omega)).trans ((set_ne (by omega)).trans c0), (set_ne (by omega)).trans ((set_ne (by omega)).trans c1), (set_ne (by omega)).trans (set_eq c2), set_eq ((set_ne (by omega)).trans c3), (set_ne (by omega)).trans ((set_ne (by omega)).trans c4), i0', hwk.chg ch hb4 hb.1, hwc, trivial⟩, trivial, .inr (.inr ⟨v, eX, rfl⟩), ?_, ?_, ?_, ch.mono (fun i hi => .inl (hc4 i hi))⟩
    · show ((q.sl :: F) ++ (has ++ [])).Perm (F ++ (has ++ [q.sl]))
      rw [List.append_nil, ← List.append_assoc]
      exact (List.perm_append_singleton q.sl (F ++ has)).symm
    · show (hv.ownBlock.toList ++ []).Nodup
      have hn := sp.nd
      rw [hown] at hn
      rw [List.append_nil]
      exact (List.nodup_append.1 hn).1
    · intro x hx
      have hx' : x ∈ hv.ownBlock.toList ++ [] := hx
      rw [List.append_nil] at hx'
      exact .inl (by rw [hown]; exact List.mem_append_left _ hx')

theorem step_any {w : World} {base M G L o : Nat} {K : Cf} {m : MS} {tag : Nat} {F : List Nat} {cur : Array Value} {t : Tk} (h : Ask w base M G L o K m tag F cur t) :
    Calls Try.prog 12 #[.pointer (some ⟨L, o, none⟩), .agg K.cs, .pointer (some ⟨M, 0, none⟩)] w fun e w' => e = .returned (.bool true) ∧ ∃ m' tag' F' cur' t', Left w w' base M G L o K m tag F cur t m' tag' F' cur' t' := by
  obtain ⟨hv, has, wa, wk, wc, mc, la⟩ := t
  cases mc with
  | idle => exact step_idle h
  | pop P p => exact step_pop h
  | push P q => exact step_push h
end Go.Proofs.Ytcfallaekedmkaa
