/- The law of what isn't right, walked. -/
import Derived.Test.YtjbjijkkmlehgaaDoorAAwake
namespace Go.Proofs.YtjbjijkkmlehgaaDoor
open Go.RowKit
open Mm (IsMem MS touched Only IsWords zeroMS)
open Hh (WT)

set_option maxHeartbeats 1000000 in
theorem none_long (s a c d g k kind ar slot : Int) (ad : Option Addr) (n cap : Nat) (hn : 30 < n) (w : World) (hw : WT w) :
    Calls Tryd.prog 7 #[.agg (cs s a c d g k), .int .i64 kind, .int .i64 ar, .int .i64 slot, .slice ad n cap] w fun e w' => e = .returned (.bool true) ∧ Below w.heap.size w w' := by
  have bel := alloc_below w (.cells #[.int .i64 s, .int .i64 a, .int .i64 c, .int .i64 d, .int .i64 g, .int .i64 k] 23)
  replace hw := hw.below bel
  have c1 := awake_any _ hw
  have hlt : (30 : Int) < (n : Int) := by omega
  clear hn
  go_enter Tryd.func7, Tryd.ntmps7
  go_upto_region 1 with fail
  generalize w.alloc (.cells #[.int .i64 s, .int .i64 a, .int .i64 c, .int .i64 d, .int .i64 g, .int .i64 k] 23) = w0 at *
  go_wp2_with (go_at_call 10; refine c1.mono ?_; rintro e w1 ⟨rfl, b⟩; replace bel := seq_below bel b)
  go_ret
  exact ⟨rfl, bel⟩

set_option maxHeartbeats 1000000 in
theorem none_wrong {s a c d g k : Int} (hr : rightB s a c d g k = false) (kind ar slot : Int) (ad : Option Addr) (n cap : Nat) (hn : n ≤ 30) (w : World) (hw : WT w) :
    Calls Tryd.prog 7 #[.agg (cs s a c d g k), .int .i64 kind, .int .i64 ar, .int .i64 slot, .slice ad n cap] w fun e w' => e = .returned (.bool true) ∧ Below w.heap.size w w' := by
  have c28 := rright_any s a c d g k
  rw [hr] at c28
  have c19 := fun w => newMake_wrong hr kind ar 0 (.slice ad n cap) w
  have c21 := fun w => newFree_no slot (by rw [hr]; rfl : (rightB s a c d g k && be slot s) = false) w
  have hlt : ¬ (30 : Int) < (n : Int) := by omega
  clear hn hr
  have bel := alloc_below w (.cells #[.int .i64 s, .int .i64 a, .int .i64 c, .int .i64 d, .int .i64 g, .int .i64 k] 23)
  have hh := cfg_new w s a c d g k
  replace hw := hw.below bel
  go_enter Tryd.func7, Tryd.ntmps7
  go_upto_region 1 with fail
  generalize w.alloc (.cells #[.int .i64 s, .int .i64 a, .int .i64 c, .int .i64 d, .int .i64 g, .int .i64 k] 23) = w0 at *
  obtain ⟨l0, l1, l2, l3, l4, l5⟩ := hh.cells
  go_wp2_with (first
    | (go_at_call 28; refine (c28 _).mono ?_; rintro e w1 ⟨rfl, b⟩; replace bel := seq_below bel b; replace hh := hh.below b; replace hw := hw.below b; clear l0 l1 l2 l3 l4 l5; obtain ⟨l0, l1, l2, l3, l4, l5⟩ := hh.cells)
    | (go_at_call 19; refine (c19 _).mono ?_; rintro e w2 ⟨rfl, b⟩; replace bel := seq_below bel b; replace hh := hh.below b; replace hw := hw.below b; clear l0 l1 l2 l3 l4 l5; obtain ⟨l0, l1, l2, l3, l4, l5⟩ := hh.cells)
    | (go_at_call 21; refine (c21 _).mono ?_; rintro e w3 ⟨rfl, b⟩; replace bel := seq_below bel b; replace hh := hh.below b; replace hw := hw.below b; clear l0 l1 l2 l3 l4 l5; obtain ⟨l0, l1, l2, l3, l4, l5⟩ := hh.cells)
    | (go_at_call 20; refine (mk_nil _ _).mono ?_; rintro e w4 ⟨rfl, rfl⟩)
    | (go_at_call 26; refine (fr_nil _ _).mono ?_; rintro e w4 ⟨rfl, rfl⟩)
    | (go_at_call 10; refine (awake_any _ hw).mono ?_; rintro e w5 ⟨rfl, b⟩; replace bel := seq_below bel b))
  go_ret
  exact ⟨rfl, bel⟩

/-- The cases of what NewMake is asked. -/
theorem none_cases (a kind ar B n : Int) : (¬ 0 ≤ ar ∧ mayB a kind ar = false) ∨ (0 ≤ ar ∧ ¬ n ≤ B) ∨ (0 ≤ ar ∧ n ≤ B ∧ kind = 1 ∧ ar ≤ a ∧ mayB a kind ar = true) ∨ (0 ≤ ar ∧ n ≤ B ∧ kind = 1 ∧ ¬ ar ≤ a ∧ mayB a kind ar = false) ∨ (0 ≤ ar ∧ n ≤ B ∧ kind = 2 ∧ ar = 0 ∧ mayB a kind ar = true) ∨ (0 ≤ ar ∧ n ≤ B ∧ kind = 2 ∧ ¬ ar = 0 ∧ mayB a kind ar = false) ∨ (0 ≤ ar ∧ n ≤ B ∧ ¬ kind = 1 ∧ ¬ kind = 2 ∧ mayB a kind ar = false) := by
  by_cases h1 : 0 ≤ ar
  · by_cases h2 : n ≤ B
    · by_cases h3 : kind = 1
      · by_cases h4 : ar ≤ a
        · exact .inr (.inr (.inl ⟨h1, h2, h3, h4, by simp [mayB, h1, h3, h4]⟩))
        · exact .inr (.inr (.inr (.inl ⟨h1, h2, h3, h4, by simp [mayB, h3, h4]⟩)))
      · by_cases h5 : kind = 2
        · by_cases h6 : ar = 0
          · exact .inr (.inr (.inr (.inr (.inl ⟨h1, h2, h5, h6, by simp [mayB, h5, h6]⟩))))
          · exact .inr (.inr (.inr (.inr (.inr (.inl ⟨h1, h2, h5, h6, by simp [mayB, h5, h6]⟩)))))
        · exact .inr (.inr (.inr (.inr (.inr (.inr ⟨h1, h2, h3, h5, by simp [mayB, h3, h5]⟩)))))
    · exact .inr (.inl ⟨h1, h2⟩)
  · refine .inl ⟨h1, ?_⟩
    have h6 : ¬ ar = 0 := by omega
    simp [mayB, h1, h6]

set_option maxHeartbeats 8000000 in
theorem none_as {K : Cf} (hK : K.Ok) (kind ar slot : Int) (ad : Option Addr) (n cap : Nat) (hn : n ≤ 30) (w : World) (hw : WT w) (po pf : Option Addr)
    (c19 : ∀ wr, Below w.heap.size w wr → Calls Tryd.prog 19 #[.agg K.cs, .int .i64 kind, .int .i64 ar, .int .u64 0, .slice ad n cap] wr fun e w' => (∃ P, e = .returned (.pointer (if po.isSome then some ⟨P, 0, none⟩ else none))) ∧ Below wr.heap.size wr w')
    (hcs : (¬ 0 ≤ ar ∧ po = none) ∨ (0 ≤ ar ∧ ¬ (n : Int) ≤ (K.B : Int) ∧ po = none) ∨ (0 ≤ ar ∧ (n : Int) ≤ (K.B : Int) ∧ kind = 1 ∧ ar ≤ K.a ∧ po ≠ none) ∨ (0 ≤ ar ∧ (n : Int) ≤ (K.B : Int) ∧ kind = 1 ∧ ¬ ar ≤ K.a ∧ po = none) ∨ (0 ≤ ar ∧ (n : Int) ≤ (K.B : Int) ∧ kind = 2 ∧ ar = 0 ∧ po ≠ none) ∨ (0 ≤ ar ∧ (n : Int) ≤ (K.B : Int) ∧ kind = 2 ∧ ¬ ar = 0 ∧ po = none) ∨ (0 ≤ ar ∧ (n : Int) ≤ (K.B : Int) ∧ ¬ kind = 1 ∧ ¬ kind = 2 ∧ po = none))
    (c21 : ∀ wr, Calls Tryd.prog 21 #[.agg K.cs, .int .i64 slot] wr fun e w' => (∃ P, e = .returned (.pointer (if pf.isSome then some ⟨P, 0, none⟩ else none))) ∧ Below wr.heap.size wr w')
    (hsl : (¬ 0 ≤ slot ∧ pf = none) ∨ (0 ≤ slot ∧ ¬ slot < (K.S : Int) ∧ pf = none) ∨ (0 ≤ slot ∧ slot < (K.S : Int) ∧ pf ≠ none)) :
    Calls Tryd.prog 7 #[.agg K.cs, .int .i64 kind, .int .i64 ar, .int .i64 slot, .slice ad n cap] w fun e w' => e = .returned (.bool true) ∧ Below w.heap.size w w' := by
  have c28 := rright_any K.S K.a K.C K.D K.g K.k
  rw [hK.r] at c28
  have c18 := room_any K.S K.a K.C K.D K.g K.k
  rw [hK.b] at c18
  have hlt : ¬ (30 : Int) < (n : Int) := by omega
  clear hn hK
  have bel := alloc_below w (.cells #[.int .i64 (K.S : Nat), .int .i64 K.a, .int .i64 (K.C : Nat), .int .i64 (K.D : Nat), .int .i64 K.g, .int .i64 K.k] 23)
  have hh := cfg_new w K.S K.a K.C K.D K.g K.k
  replace hw := hw.below bel
  unfold Cf.cs at *
  rcases hcs with ⟨q1, rfl⟩ | ⟨q1, q2, rfl⟩ | ⟨q1, q2, rfl, q4, q5⟩ | ⟨q1, q2, rfl, q4, rfl⟩ | ⟨q1, q2, rfl, rfl, q5⟩ | ⟨q1, q2, rfl, q4, rfl⟩ | ⟨q1, q2, q3, q4, rfl⟩
  all_goals
    (try (have q5b := Option.isSome_iff_ne_none.2 q5; simp only [q5b] at c19))
    (try (have q4b : (ar == 0) = false := by simpa using q4))
    (try (have q3b : (kind == 1) = false := by simpa using q3))
    (try (have q4c : (kind == 2) = false := by simpa using q4))
    simp only [Option.isSome_none, Bool.false_eq_true, if_false, if_true] at c19
    (try clear q5 q5b)
    go_enter Tryd.func7, Tryd.ntmps7
    go_upto_region 1 with fail
    generalize w.alloc (.cells #[.int .i64 (K.S : Nat), .int .i64 K.a, .int .i64 (K.C : Nat), .int .i64 (K.D : Nat), .int .i64 K.g, .int .i64 K.k] 23) = w0 at *
    obtain ⟨l0, l1, l2, l3, l4, l5⟩ := hh.cells
    go_upto_region 7 with (first
      | (go_at_call 28; refine (c28 _).mono ?_; rintro e w1 ⟨rfl, b⟩; replace bel := seq_below bel b; replace hh := hh.below b; replace hw := hw.below b; clear l0 l1 l2 l3 l4 l5; obtain ⟨l0, l1, l2, l3, l4, l5⟩ := hh.cells)
      | (go_at_call 18; refine (c18 _).mono ?_; rintro e w1 ⟨rfl, b⟩; replace bel := seq_below bel b; replace hh := hh.below b; replace hw := hw.below b; clear l0 l1 l2 l3 l4 l5; obtain ⟨l0, l1, l2, l3, l4, l5⟩ := hh.cells))
    clear c28 c18
    rcases hsl with ⟨y1, rfl⟩ | ⟨y1, y2, rfl⟩ | ⟨y1, y2, y3⟩
    all_goals
      (try (have y3b := Option.isSome_iff_ne_none.2 y3; simp only [y3b] at c21))
      simp only [Option.isSome_none, Bool.false_eq_true, if_false, if_true] at c21
      (try clear y3 y3b)
      go_wp2_with (first
        | (go_at_call 19; refine (c19 _ bel).mono ?_; rintro e w2 ⟨⟨P1, rfl⟩, b⟩; replace bel := seq_below bel b; replace hh := hh.below b; replace hw := hw.below b; clear l0 l1 l2 l3 l4 l5; obtain ⟨l0, l1, l2, l3, l4, l5⟩ := hh.cells)
        | (go_at_call 21; refine (c21 _).mono ?_; rintro e w3 ⟨⟨P2, rfl⟩, b⟩; replace bel := seq_below bel b; replace hh := hh.below b; replace hw := hw.below b; clear l0 l1 l2 l3 l4 l5; obtain ⟨l0, l1, l2, l3, l4, l5⟩ := hh.cells)
        | (go_at_call 20; refine (mk_nil _ _).mono ?_; rintro e w4 ⟨rfl, rfl⟩)
        | (go_at_call 26; refine (fr_nil _ _).mono ?_; rintro e w4 ⟨rfl, rfl⟩)
        | (go_at_call 10; refine (awake_any _ hw).mono ?_; rintro e w5 ⟨rfl, b⟩; replace bel := seq_below bel b))
      go_ret
      first | exact ⟨rfl, bel⟩ | exact ⟨congrArg (fun b => Ending.returned (Value.bool b)) (by simp; omega), bel⟩

theorem none_law (s a c d g k kind ar slot : Int) (ad : Option Addr) (n cap : Nat) (Y : List Nat) (hl : Y.length = n) (w : World) (hs : SrW w ad Y) (hw : WT w) :
    Calls Tryd.prog 7 #[.agg (cs s a c d g k), .int .i64 kind, .int .i64 ar, .int .i64 slot, .slice ad n cap] w fun e w' => e = .returned (.bool true) ∧ Below w.heap.size w w' := by
  by_cases hn : n ≤ 30
  · cases hr : rightB s a c d g k with
    | false => exact none_wrong hr kind ar slot ad n cap hn w hw
    | true =>
      obtain ⟨K, hK, rfl, rfl, rfl, rfl, rfl, rfl⟩ := Cf.of_right hr
      have nil : ∀ wr, Calls Tryd.prog 19 #[.agg K.cs, .int .i64 kind, .int .i64 ar, .int .u64 0, .slice ad n cap] wr (fun e w' => e = .returned (.pointer none) ∧ Below wr.heap.size wr w') → Calls Tryd.prog 19 #[.agg K.cs, .int .i64 kind, .int .i64 ar, .int .u64 0, .slice ad n cap] wr (fun e w' => (∃ P, e = .returned (.pointer (if (none : Option Addr).isSome then some ⟨P, 0, none⟩ else none))) ∧ Below wr.heap.size wr w') := fun wr h => h.mono fun e w' ⟨h1, h2⟩ => ⟨⟨0, h1⟩, h2⟩
      have yes : ∀ kn an : Nat, mayB K.a kn an = true → (n : Int) ≤ (K.B : Int) → ∀ wr, Below w.heap.size w wr → Calls Tryd.prog 19 #[.agg K.cs, .int .i64 (kn : Nat), .int .i64 (an : Nat), .int .u64 0, .slice ad n cap] wr (fun e w' => (∃ P, e = .returned (.pointer (if (some (⟨0, 0, none⟩ : Addr)).isSome then some ⟨P, 0, none⟩ else none))) ∧ Below wr.heap.size wr w') := fun kn an hm hB wr b =>
        (newMake_yes hK kn an 0 hm (cap := cap) (hs.below b) hl (by omega)).mono fun e w' ⟨P, R, c, h1, h2, _⟩ => ⟨⟨P, h1⟩, h2.bel⟩
      have hf : ∃ pf : Option Addr, (∀ wr, Calls Tryd.prog 21 #[.agg K.cs, .int .i64 slot] wr fun e w' => (∃ P, e = .returned (.pointer (if pf.isSome then some ⟨P, 0, none⟩ else none))) ∧ Below wr.heap.size wr w') ∧ ((¬ 0 ≤ slot ∧ pf = none) ∨ (0 ≤ slot ∧ ¬ slot < (K.S : Int) ∧ pf = none) ∨ (0 ≤ slot ∧ slot < (K.S : Int) ∧ pf ≠ none)) := by
        have no : ¬ (0 ≤ slot ∧ slot < (K.S : Int)) → ∀ wr, Calls Tryd.prog 21 #[.agg K.cs, .int .i64 slot] wr fun e w' => (∃ P, e = .returned (.pointer (if (none : Option Addr).isSome then some ⟨P, 0, none⟩ else none))) ∧ Below wr.heap.size wr w' := fun hno wr =>
          (newFree_no slot (by
            rw [hK.r, Bool.true_and]
            cases hb : be slot (K.S : Int) with
            | false => rfl
            | true => exact absurd (be_iff.1 hb) hno) wr).mono fun e w' ⟨h1, h2⟩ => ⟨⟨0, h1⟩, h2⟩
        by_cases h1 : 0 ≤ slot
        · by_cases h2 : slot < (K.S : Int)
          · obtain ⟨sn, rfl⟩ : ∃ sn : Nat, slot = (sn : Int) := ⟨slot.toNat, by omega⟩
            exact ⟨some ⟨0, 0, none⟩, fun wr => (newFree_yes hK (s := sn) (by omega) wr).mono fun e w' ⟨P, c, e1, e2, _⟩ => ⟨⟨P, e1⟩, e2.bel⟩, .inr (.inr ⟨h1, h2, by simp⟩)⟩
          · exact ⟨none, no (by omega), .inr (.inl ⟨h1, h2, rfl⟩)⟩
        · exact ⟨none, no (by omega), .inl ⟨h1, rfl⟩⟩
      obtain ⟨pf, c21, hsl⟩ := hf
      rcases none_cases K.a kind ar K.B n with ⟨q1, q2⟩ | ⟨q1, q2⟩ | ⟨q1, q2, rfl, q4, q5⟩ | ⟨q1, q2, q3, q4, q5⟩ | ⟨q1, q2, rfl, rfl, q5⟩ | ⟨q1, q2, q3, q4, q5⟩ | ⟨q1, q2, q3, q4, q5⟩
      · exact none_as hK kind ar slot ad n cap hn w hw none pf (fun wr _ => nil wr (newMake_not hK.r kind ar 0 q2 _ wr)) (.inl ⟨q1, rfl⟩) c21 hsl
      · cases hm : mayB K.a kind ar with
        | false => exact none_as hK kind ar slot ad n cap hn w hw none pf (fun wr _ => nil wr (newMake_not hK.r kind ar 0 hm _ wr)) (.inr (.inl ⟨q1, q2, rfl⟩)) c21 hsl
        | true => exact none_as hK kind ar slot ad n cap hn w hw none pf (fun wr _ => nil wr (newMake_long hK kind ar 0 hm ad n cap (by omega) wr)) (.inr (.inl ⟨q1, q2, rfl⟩)) c21 hsl
      · obtain ⟨an, rfl⟩ : ∃ an : Nat, ar = (an : Int) := ⟨ar.toNat, by omega⟩
        exact none_as hK 1 an slot ad n cap hn w hw (some ⟨0, 0, none⟩) pf (yes 1 an q5 q2) (.inr (.inr (.inl ⟨q1, q2, rfl, q4, by simp⟩))) c21 hsl
      · exact none_as hK kind ar slot ad n cap hn w hw none pf (fun wr _ => nil wr (newMake_not hK.r kind ar 0 q5 _ wr)) (.inr (.inr (.inr (.inl ⟨q1, q2, q3, q4, rfl⟩)))) c21 hsl
      · exact none_as hK 2 0 slot ad n cap hn w hw (some ⟨0, 0, none⟩) pf (yes 2 0 q5 q2) (.inr (.inr (.inr (.inr (.inl ⟨q1, q2, rfl, rfl, by simp⟩))))) c21 hsl
      · exact none_as hK kind ar slot ad n cap hn w hw none pf (fun wr _ => nil wr (newMake_not hK.r kind ar 0 q5 _ wr)) (.inr (.inr (.inr (.inr (.inr (.inl ⟨q1, q2, q3, q4, rfl⟩)))))) c21 hsl
      · exact none_as hK kind ar slot ad n cap hn w hw none pf (fun wr _ => nil wr (newMake_not hK.r kind ar 0 q5 _ wr)) (.inr (.inr (.inr (.inr (.inr (.inr ⟨q1, q2, q3, q4, rfl⟩)))))) c21 hsl
  · exact none_long s a c d g k kind ar slot ad n cap (by omega) w hw
end Go.Proofs.YtjbjijkkmlehgaaDoor
