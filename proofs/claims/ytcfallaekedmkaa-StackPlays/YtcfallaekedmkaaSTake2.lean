/- One step of a taker, put together. -/
import Derived.Test.YtcfallaekedmkaaSTake
namespace Go.Proofs.Ytcfallaekedmkaa
open Go.RowKit
open Mm (IsMem MS zeroMS)
set_option linter.unusedVariables false

theorem hid_refl {α : Type} (a : α) : Hid (a = a) := rfl
theorem lt_of_get {cur : Array Value} {i : Nat} {v : Value} (h : cur[i]? = some v) : i < cur.size := (Array.getElem?_eq_some_iff.1 h).1
theorem pop0_inv (K : Cf) (X : List Nat) (tag : Nat) : PInv K X tag pop0 := ⟨by decide, (fun h => by cases h), (fun h => by cases h), fun h => by cases h⟩
theorem push0_inv (K : Cf) (X : List Nat) (tag s : Nat) : QInv K X tag ⟨s, 0, 0⟩ := ⟨by show 0 ≤ 2; omega, (fun h => by have : 1 ≤ 0 := h; omega), fun h => by cases h⟩

/-- A Pop's step, where it goes on. -/
theorem cst_pop {K : Cf} (hK : K.Ok) {M G P : Nat} {m : MS} {p : PS} {tag : Nat} {F : List Nat} (tp : Top K m.X tag F) (ht : 0 ≤ m.t ∧ m.t < 2305843009213693952) (hw : PWf K p) (h1 : P ≠ M) (h2 : P ≠ G) (bb : Bool) (hb : decide ((popStep K m p).2.pc = 3) = bb) :
    ∀ wr, IsMem wr M G m → IsPopS wr P K p → Calls Try.prog 21 #[.pointer (some ⟨P, 0, none⟩), .pointer (some ⟨M, 0, none⟩)] wr fun e w' => e = .returned (.bool bb) ∧ IsMem w' M G (popStep K m p).1 ∧ IsPopS w' P K (popStep K m p).2 ∧ Chg [P, M, G] wr w' := fun wr hm hp => by
  subst hb
  exact popStep_any hK hm hp h1 h2 tp.len (by omega) hw
theorem cst_push {K : Cf} (hK : K.Ok) {M G P : Nat} {m : MS} {q : QS} {tag : Nat} {F : List Nat} (tp : Top K m.X tag F) (ht : 0 ≤ m.t ∧ m.t < 2305843009213693952) (hw : QWf K q) (h1 : P ≠ M) (h2 : P ≠ G) (bb : Bool) (hb : decide ((pushStep K m q).2.pc = 3) = bb) :
    ∀ wr, IsMem wr M G m → IsPushS wr P K q → Calls Try.prog 24 #[.pointer (some ⟨P, 0, none⟩), .pointer (some ⟨M, 0, none⟩)] wr fun e w' => e = .returned (.bool bb) ∧ IsMem w' M G (pushStep K m q).1 ∧ IsPushS w' P K (pushStep K m q).2 ∧ Chg [P, M, G] wr w' := fun wr hm hp => by
  subst hb
  exact pushStep_any hK hm hp h1 h2 tp.len (by omega) hw

/-- What all cases are asked. -/
structure Ask (w : World) (base M G L o : Nat) (K : Cf) (m : MS) (tag : Nat) (F : List Nat) (cur : Array Value) (t : Tk) : Prop where
  ok : K.Ok
  mem : IsMem w M G m
  top : Top K m.X tag F
  ht : 0 ≤ m.t ∧ m.t < 2305843009213693952
  tg : tag + 1 < 281474976710656
  row : IsRow w L cur
  hL : L ≠ M ∧ L ≠ G
  tk : TkOk w base o K cur t
  inv : McInv K m.X tag t.mc t.la
  sep : Sep base M G L t
  hold : ∀ s ∈ t.hold, s ∉ F ∧ s < K.S
  len : t.has.length ≤ 64
  hb : base ≤ w.heap.size ∧ base ≤ M ∧ base ≤ G ∧ base ≤ L

theorem Ask.wt {w : World} {base M G L o : Nat} {K : Cf} {m : MS} {tag : Nat} {F : List Nat} {cur : Array Value} {t : Tk} (h : Ask w base M G L o K m tag F cur t) : ∀ i, m.X.getD i 0 < 18446744073709551616 := fun i => h.mem.word_lt i

theorem step_idle {w : World} {base M G L o : Nat} {K : Cf} {m : MS} {tag : Nat} {F : List Nat} {cur : Array Value} {hv : Value} {has : List Nat} {wa : Option Addr} {wk : List Bool} {wc : Nat} {la : Int} (h : Ask w base M G L o K m tag F cur ⟨hv, has, wa, wk, wc, .idle, la⟩) :
    Calls Try.prog 12 #[.pointer (some ⟨L, o, none⟩), .agg K.cs, .pointer (some ⟨M, 0, none⟩)] w fun e w' => e = .returned (.bool true) ∧ ∃ m' tag' F' cur' t', Left w w' base M G L o K m tag F cur ⟨hv, has, wa, wk, wc, .idle, la⟩ m' tag' F' cur' t' := by
  obtain ⟨hK, hm, tp, ht, htag, hr, hL, tk, inv, sp, hhold, hlen, hb⟩ := h
  have hX : ∀ i, m.X.getD i 0 < 18446744073709551616 := fun i => hm.word_lt i
  obtain ⟨c0, c1, c2, c3, c4, i0, hwk, hwc, hmc⟩ := tk
  simp only at c0 c1 c2 c3 c4 i0 hwk hwc
  have hsz := lt_of_get c4
  have hv0 : ∀ r, hv.ownBlock = some r → r ≠ M ∧ r ≠ G ∧ r ≠ L := fun r hr' => by
    have := sp.far r (own_hv (t := ⟨hv, has, wa, wk, wc, .idle, la⟩) hr')
    exact ⟨this.1, this.2.1, this.2.2.1⟩
  have hvl : ∀ r, hv.ownBlock = some r → r < w.heap.size := fun r hr' => i0.lt hr'
  have hlb : ∀ i ∈ [M, G, L], base ≤ i := by simp; omega
  cases wk with
  | nil =>
    refine (stp_idle hK hm tp ht hr hL c0 c1 c4 i0 hv0 c2 c3).mono fun e w' ⟨he, hm', hr', i0', ch⟩ => ⟨he, m, tag, F, cur, ⟨hv, has, wa, [], wc, .idle, la⟩, ?_⟩
    exact ⟨hm', tp, ⟨ht.1, by omega⟩, by omega, hr', rfl, fun _ _ => rfl, ⟨c0, c1, c2, c3, c4, i0', fun i hi => by simp at hi, hwc, trivial⟩, trivial, .inl ⟨rfl, rfl, rfl⟩, List.Perm.refl _, sp.nd, fun b hb => .inl hb, ch.mono (fun i hi => .inl (by simp at hi; simp [hi]))⟩
  | cons z wk =>
    obtain ⟨b, off, rfl, hlt, hz⟩ := hwk.head hb.1
    rw [List.length_cons] at c1 hwc
    have hwt := hwk.tail hwc
    cases z with
    | false =>
      cases has with
      | nil =>
        refine (stp_skip (hs := []) hK hm tp ht hr hL c0 c1 hwc c4 i0 hv0 (nad := (if wc = 1 then some ⟨b, off, none⟩ else some ⟨b, off + 1, none⟩)) (HN := hid_refl _) c2 c3 hz).mono fun e w' ⟨he, hm', hr', i0', ch⟩ => ⟨he, m, tag, F, (cur.setIfInBounds (o + 1) (.slice (if wc = 1 then some ⟨b, off, none⟩ else some ⟨b, off + 1, none⟩) wk.length (wc - 1))), ⟨hv, [], (if wc = 1 then some ⟨b, off, none⟩ else some ⟨b, off + 1, none⟩), wk, wc - 1, .idle, la⟩, ?_⟩
        exact ⟨hm', tp, ⟨ht.1, by omega⟩, by omega, hr', by simp, fun j hj => set_ne (by omega), ⟨(set_ne (by omega)).trans c0, set_eq c1, (set_ne (by omega)).trans c2, (set_ne (by omega)).trans c3, (set_ne (by omega)).trans c4, i0', hwt.chg ch (by simp; omega) hb.1, by show wk.length ≤ wc - 1; omega, trivial⟩, trivial, .inl ⟨rfl, rfl, rfl⟩, List.Perm.refl _, sp.nd, fun b hb => .inl hb, ch.mono (fun i hi => .inl (by simp at hi; simp [hi]))⟩
      | cons h hs =>
        obtain ⟨ad0, cz, rfl, hcz, hf⟩ := i0.form
        obtain ⟨g0, o0, rfl⟩ := hf (by simp)
        rw [List.length_cons] at c0 i0 hcz
        have hg := hv0 g0 rfl
        have hgl := hvl g0 rfl
        have hh := hhold h (by simp [Tk.hold, Mc.lay])
        have hq := push0_wf (K := K) (i := h) hh.2
        have hqi := push0_inv K m.X tag h
        rcases pushCases hK tp hqi hh.1 hh.2 htag with ⟨e1, e2, e3, e4, e5⟩ | ⟨e1, _⟩
        · have ht' := pushStep_t K m ⟨h, 0, 0⟩
          have hwf := pushStep_wf (m := m) hq hX
          have hnd : ∀ r, (Value.slice (if cz = 1 then some ⟨g0, o0, none⟩ else some ⟨g0, o0 + 1, none⟩) hs.length (cz - 1)).ownBlock = some r ↔ r = g0 := fun r => by split <;> simp [Value.ownBlock] <;> omega
          have hown1 : (Value.slice (if cz = 1 then some ⟨g0, o0, none⟩ else some ⟨g0, o0 + 1, none⟩) hs.length (cz - 1)).ownBlock = some g0 := (hnd g0).2 rfl
          refine (stp_newpush_go hK hm tp ht hr hL c0 c1 hwc c4 i0 hg (nad := (if wc = 1 then some ⟨b, off, none⟩ else some ⟨b, off + 1, none⟩)) (HN := hid_refl _) (had := (if cz = 1 then some ⟨g0, o0, none⟩ else some ⟨g0, o0 + 1, none⟩)) (HA := hid_refl _) c2 c3 hz hh.2 (fun P wr a1 a2 => cst_push hK tp ht hq a1 a2 false (decide_eq_false (by omega)) wr) e4 ⟨ht'.2, by omega⟩).mono fun e w' ⟨he, hm', P, hp', hr', i0', ch, hP⟩ => ⟨he, (pushStep K m ⟨h, 0, 0⟩).1, tag, F, ((((cur.setIfInBounds (o + 1) (.slice (if wc = 1 then some ⟨b, off, none⟩ else some ⟨b, off + 1, none⟩) wk.length (wc - 1))).setIfInBounds (o + 4) (.int .i64 (h : Nat))).setIfInBounds o (.slice (if cz = 1 then some ⟨g0, o0, none⟩ else some ⟨g0, o0 + 1, none⟩) hs.length (cz - 1))).setIfInBounds (o + 3) (.pointer (some ⟨P, 0, none⟩))), ⟨.slice (if cz = 1 then some ⟨g0, o0, none⟩ else some ⟨g0, o0 + 1, none⟩) hs.length (cz - 1), hs, (if wc = 1 then some ⟨b, off, none⟩ else some ⟨b, off + 1, none⟩), wk, wc - 1, .push P (pushStep K m ⟨h, 0, 0⟩).2, h⟩, ?_⟩
          have hcw : Chg ([M, G, L] ++ Tk.own ⟨.slice (some ⟨g0, o0, none⟩) (hs.length + 1) cz, h :: hs, some ⟨b, off, none⟩, false :: wk, wc, .idle, la⟩) w w' := ch.mono (fun i hi => by
            simp only [List.mem_cons, List.not_mem_nil, or_false] at hi
            rcases hi with rfl | rfl | rfl | rfl
            · exact .inr hP
            all_goals exact .inl (by simp))
          refine ⟨hm', e4, ⟨by omega, ht'.2⟩, by omega, hr', by simp, fun j hj => ?_, ⟨?_, ?_, ?_, ?_, ?_, i0', ?_, by show wk.length ≤ wc - 1; omega, hp'⟩, ⟨hwf.1, e3, by show (h : Int) = ((pushStep K m ⟨h, 0, 0⟩).2.sl : Int); rw [e2]⟩, ?_, ?_, ?_, ?_, hcw⟩
          · exact (set_ne (by omega)).trans ((set_ne (by omega)).trans ((set_ne (by omega)).trans (set_ne (by omega))))
          · exact (set_ne (by omega)).trans (set_eq ((set_ne (by omega)).trans ((set_ne (by omega)).trans c0)))
          · exact (set_ne (by omega)).trans ((set_ne (by omega)).trans ((set_ne (by omega)).trans (set_eq c1)))
          · exact (set_ne (by omega)).trans ((set_ne (by omega)).trans ((set_ne (by omega)).trans ((set_ne (by omega)).trans c2)))
          · exact set_eq ((set_ne (by omega)).trans ((set_ne (by omega)).trans ((set_ne (by omega)).trans c3)))
          · exact (set_ne (by omega)).trans ((set_ne (by omega)).trans (set_eq ((set_ne (by omega)).trans c4)))
          · refine hwt.chg ch (fun i hi => ?_) hb.1
            simp only [List.mem_cons, List.not_mem_nil, or_false] at hi
            rcases hi with rfl | rfl | rfl | rfl <;> omega
          · rcases e5 with e5 | ⟨v, e5⟩
            · exact .inl ⟨e5, rfl, rfl⟩
            · exact .inr (.inl ⟨v, h, by simp [Tk.hold, Mc.lay], e5, rfl, rfl⟩)
          · show (F ++ (hs ++ [(pushStep K m ⟨h, 0, 0⟩).2.sl])).Perm (F ++ ((h :: hs) ++ []))
            rw [e2, List.append_nil]
            exact List.Perm.append_left F (List.perm_append_singleton h hs)
          · show (Option.toList (Value.ownBlock _) ++ [P]).Nodup
            rw [hown1]
            simp
            omega
          · intro x hx
            have hx' : x ∈ Option.toList (Value.ownBlock (.slice (if cz = 1 then some ⟨g0, o0, none⟩ else some ⟨g0, o0 + 1, none⟩) hs.length (cz - 1))) ++ [P] := hx
            rw [hown1] at hx'
            simp at hx'
            rcases hx' with rfl | rfl
            · exact .inl (by simp [Tk.own, Value.ownBlock])
            · exact .inr hP
        · have : (pushStep K m ⟨h, 0, 0⟩).2.pc = 1 := by rw [push_1 rfl]
          omega
    | true =>
      have hpi := pop0_inv K m.X tag
      have hpw := pop0_wf K
      have ht' := popStep_t K m pop0
      have hwf := popStep_wf (m := m) hpw hX
      cases F with
      | nil =>
        have e := pop_e (K := K) (m := m) (p := pop0) tp rfl
        have eX : (popStep K m pop0).1.X = m.X := by rw [e]; exact touched_X m 1 3
        have e3 : (popStep K m pop0).2.pc = 3 := by rw [e]
        refine (stp_newpop_empty (F := []) hK hm tp ht hr hL c0 c1 hwc c4 i0 hv0 (nad := (if wc = 1 then some ⟨b, off, none⟩ else some ⟨b, off + 1, none⟩)) (HN := hid_refl _) c2 c3 hz (fun P wr a1 a2 => cst_pop hK tp ht hpw a1 a2 true (decide_eq_true e3) wr) (by rw [eX]; exact tp) ⟨ht'.2, by omega⟩ (by rw [e]; rfl) (by rw [e])).mono fun e w' ⟨he, hm', P, hr', i0', ch, hP⟩ => ⟨he, (popStep K m pop0).1, tag, [], (((cur.setIfInBounds (o + 1) (.slice (if wc = 1 then some ⟨b, off, none⟩ else some ⟨b, off + 1, none⟩) wk.length (wc - 1))).setIfInBounds (o + 2) (.pointer (some ⟨P, 0, none⟩))).setIfInBounds (o + 2) (.pointer none)), ⟨hv, has, (if wc = 1 then some ⟨b, off, none⟩ else some ⟨b, off + 1, none⟩), wk, wc - 1, .idle, la⟩, ?_⟩
        have hcw : Chg ([M, G, L] ++ Tk.own ⟨hv, has, some ⟨b, off, none⟩, true :: wk, wc, .idle, la⟩) w w' := ch.mono (fun i hi => by
          simp only [List.mem_cons, List.not_mem_nil, or_false] at hi
          rcases hi with rfl | rfl | rfl | rfl
          · exact .inr hP
          all_goals exact .inl (by simp))
        refine ⟨hm', by rw [eX]; exact tp, ⟨by omega, ht'.2⟩, by omega, hr', by simp, fun j hj => ?_, ⟨?_, ?_, ?_, ?_, ?_, i0', ?_, by show wk.length ≤ wc - 1; omega, trivial⟩, trivial, .inl ⟨eX, rfl, rfl⟩, List.Perm.refl _, sp.nd, fun x hx => .inl hx, hcw⟩
        · exact (set_ne (by omega)).trans ((set_ne (by omega)).trans (set_ne (by omega)))
        · exact (set_ne (by omega)).trans ((set_ne (by omega)).trans ((set_ne (by omega)).trans c0))
        · exact (set_ne (by omega)).trans ((set_ne (by omega)).trans (set_eq c1))
        · exact set_eq (set_eq ((set_ne (by omega)).trans c2))
        · exact (set_ne (by omega)).trans ((set_ne (by omega)).trans ((set_ne (by omega)).trans c3))
        · exact (set_ne (by omega)).trans ((set_ne (by omega)).trans ((set_ne (by omega)).trans c4))
        · refine hwt.chg ch (fun i hi => ?_) hb.1
          simp only [List.mem_cons, List.not_mem_nil, or_false] at hi
          rcases hi with rfl | rfl | rfl | rfl <;> omega
      | cons s F =>
        have e := pop_1 (K := K) (m := m) (p := pop0) tp rfl
        have e1 : (popStep K m pop0).2.pc = 1 := by rw [e]
        rcases popCases hK tp hpi htag with ⟨g1, eX, g3, g4, g5⟩ | ⟨g1, _⟩ | ⟨_, _, _, g1, _⟩
        · refine (stp_newpop_go hK hm tp ht hr hL c0 c1 hwc c4 i0 hv0 (nad := (if wc = 1 then some ⟨b, off, none⟩ else some ⟨b, off + 1, none⟩)) (HN := hid_refl _) c2 c3 hz (fun P wr a1 a2 => cst_pop hK tp ht hpw a1 a2 false (decide_eq_false (by omega)) wr) (by rw [eX]; exact tp) ⟨ht'.2, by omega⟩).mono fun e w' ⟨he, hm', P, hp', hr', i0', ch, hP⟩ => ⟨he, (popStep K m pop0).1, tag, s :: F, ((cur.setIfInBounds (o + 1) (.slice (if wc = 1 then some ⟨b, off, none⟩ else some ⟨b, off + 1, none⟩) wk.length (wc - 1))).setIfInBounds (o + 2) (.pointer (some ⟨P, 0, none⟩))), ⟨hv, has, (if wc = 1 then some ⟨b, off, none⟩ else some ⟨b, off + 1, none⟩), wk, wc - 1, .pop P (popStep K m pop0).2, la⟩, ?_⟩
          have hcw : Chg ([M, G, L] ++ Tk.own ⟨hv, has, some ⟨b, off, none⟩, true :: wk, wc, .idle, la⟩) w w' := ch.mono (fun i hi => by
            simp only [List.mem_cons, List.not_mem_nil, or_false] at hi
            rcases hi with rfl | rfl | rfl | rfl
            · exact .inr hP
            all_goals exact .inl (by simp))
          refine ⟨hm', by rw [eX]; exact tp, ⟨by omega, ht'.2⟩, by omega, hr', by simp, fun j hj => ?_, ⟨?_, ?_, ?_, ?_, ?_, i0', ?_, by show wk.length ≤ wc - 1; omega, hp'⟩, ⟨hwf, by rw [eX]; exact g5, g3, g4⟩, .inl ⟨eX, rfl, rfl⟩, List.Perm.refl _, ?_, ?_, hcw⟩
          · exact (set_ne (by omega)).trans (set_ne (by omega))
          · exact (set_ne (by omega)).trans ((set_ne (by omega)).trans c0)
          · exact (set_ne (by omega)).trans (set_eq c1)
          · exact set_eq ((set_ne (by omega)).trans c2)
          · exact (set_ne (by omega)).trans ((set_ne (by omega)).trans c3)
          · exact (set_ne (by omega)).trans ((set_ne (by omega)).trans c4)
          · refine hwt.chg ch (fun i hi => ?_) hb.1
            simp only [List.mem_cons, List.not_mem_nil, or_false] at hi
            rcases hi with rfl | rfl | rfl | rfl <;> omega
          · show (hv.ownBlock.toList ++ [P]).Nodup
            cases hx : hv.ownBlock with
            | none => simp
            | some r => have := hvl r hx; simp; omega
          · intro x hx
            have hx' : x ∈ hv.ownBlock.toList ++ [P] := hx
            rcases List.mem_append.1 hx' with h | h
            · exact .inl (by simp [Tk.own] at h ⊢; exact .inl h)
            · simp at h
              exact .inr (by omega)
        · cases g1
        · omega
end Go.Proofs.Ytcfallaekedmkaa
