/- What word.Set has set word.Get gets, as far as there is room for it, setting back what was there gives the word back, and bits beside it stay; no condition. -/
import Derived.Test.YteeocnknocoefaaRows
import Derived.Test.YteeocnknocoefaaBackWalk
import Derived.WalkKit
import Derived.ProofKit
import Derived.OpenShut
import Derived.Below
namespace Go.Proofs.Yteeocnknocoefaa.wordBack
open Go.ChangeShapes Go.WideShapes Go.ChangeAt Go.RowKit
set_option linter.unusedVariables false

theorem own : ownKnob Try.prog.godebug = none := by kernel_rfl

theorem walk (a0 : Int) (a1 : Int) (a2 : Int) (a3 : Int) (a4 : Int) (w0 : (Lit.int .u64 a0).wf = true) (w1 : (Lit.int .i64 a1).wf = true) (w2 : (Lit.int .i64 a2).wf = true) (w3 : (Lit.int .u64 a3).wf = true) (w4 : (Lit.int .i64 a4).wf = true) (w : World) :
    Calls Try.prog 8 #[.int .u64 a0, .int .i64 a1, .int .i64 a2, .int .u64 a3, .int .i64 a4] w fun e w' => e = .returned (.bool true) ∧ Below w.heap.size w w' := by
  obtain ⟨W, rfl, hW⟩ := u64_nat w0
  obtain ⟨V, rfl, hV⟩ := u64_nat w3
  have b1 := bounds_i64 w1
  have b2 := bounds_i64 w2
  obtain ⟨k, hk, hx⟩ := other_k a4
  by_cases h : isSome a1 a2 = true
  · have h' := (isSome_iff _ _).1 h
    obtain ⟨a, rfl⟩ : ∃ n : Nat, a1 = (n : Int) := ⟨a1.toNat, by omega⟩
    obtain ⟨n, rfl⟩ : ∃ n : Nat, a2 = (n : Int) := ⟨a2.toNat, by omega⟩
    have h1 : 1 ≤ n := by omega
    have h2 : a + n ≤ 64 := by omega
    have hXl := setN_lt W a n V
    have c0 := set_yes W a n V hW hV h1 h2
    have c3 := get_yes (setN W a n V) a n hXl h1 h2
    rw [back_get W a n V h2] at c3
    have c4 := get_yes V 0 n hV h1 (by omega)
    have c5 := get_yes W a n hW h1 h2
    have c6 := set_yes (setN W a n V) a n (getN W a n) hXl (getN_lt W a n (by omega)) h1 h2
    rw [back_set W a n V hW] at c6
    have c1 := get_yes (setN W a n V) k 1 hXl (by omega) (by omega)
    have c2 := get_yes W k 1 hW (by omega) (by omega)
    by_cases h3 : k < a
    · rw [back_beside W a n V k hk (.inl h3)] at c1
      exact back_lo W a n V k _ _ _ _ a4 w c0 c1 c2 c3 c4 c5 c6 hx h1 h2 h3
    · by_cases h4 : a + n ≤ k
      · rw [back_beside W a n V k hk (.inr h4)] at c1
        exact back_hi W a n V k _ _ _ _ a4 w c0 c1 c2 c3 c4 c5 c6 hx h1 h2 h4
      · exact back_in W a n V k _ _ _ a4 w c0 c3 c4 c5 c6 hx h1 h2 (by omega) (by omega)
  · have h0 : isSome a1 a2 = false := by simpa using h
    have c0 := set_no W V a1 a2 b1 b2 h0
    have h' : ¬ (1 ≤ a2 ∧ 0 ≤ a1 ∧ a1 ≤ 64 - a2) := fun c => h ((isSome_iff _ _).2 c)
    by_cases h1 : a2 < 1
    · exact back_no1 W V k a1 a2 a4 w c0 hx h1
    · by_cases h2 : 64 < a2
      · exact back_no2 W V k a1 a2 a4 w c0 hx h2
      · by_cases h3 : a1 < 0
        · exact back_no3 W V k a1 a2 a4 w c0 hx (by omega) (by omega) h3
        · exact back_no4 W V k a1 a2 a4 w c0 hx (by omega) (by omega) (by omega) (by omega)

set_option maxRecDepth 100000 in
theorem lifted (os : Os) (started : os.Started) (H : Type) (enc : TypeId × Value → H) :
    ReturnsInHanded {} Try.checked os 8 .any (Rows.wordBackSpec.pre6 enc Try.prog Try.f8 Rows.wordBackRow.domain false) (Rows.wordBackSpec.post enc Try.prog Try.f8 false true false false) := by
  refine returnsInHanded_of_change (C := Try.checked) own started (by kernel_rfl) Try.func8
    (ChangeSpec.witness6 (enc := enc) (C := Try.checked) false ⟨#[], #[.int .u64 0, .int .i64 0, .int .i64 0, .int .u64 0, .int .i64 0], []⟩ 8 (by kernel_rfl) (by kernel_rfl) (by kernel_rfl) (by kernel_rfl)) ?_
  intro W base args ds gs before hval0 hW hcnd _
  have hval : ∀ (j : Nat) t v, Try.f8.params[j]? = some t → args[j]? = some v → Value.okWide Try.prog W .any base t v := hval0
  have hW' := hW
  obtain ⟨p, q, hA0, hV, rfl, hfz, hnd⟩ := hW
  have hA : DataW.TrodAll enc Try.prog W 0 (fun _ => true) true Try.f8.params.toList args.toList ds p := hA0
  rw [Try.params8] at hA hval
  obtain ⟨v0, vs0, d0, ds0, p0, q0, hargs, rfl, rfl, h0, r0⟩ := trodAll_cons hA
  obtain ⟨v1, vs1, d1, ds1, p1, q1, rfl, rfl, rfl, h1, r1⟩ := trodAll_cons r0
  obtain ⟨v2, vs2, d2, ds2, p2, q2, rfl, rfl, rfl, h2, r2⟩ := trodAll_cons r1
  obtain ⟨v3, vs3, d3, ds3, p3, q3, rfl, rfl, rfl, h3, r3⟩ := trodAll_cons r2
  obtain ⟨v4, vs4, d4, ds4, p4, q4, rfl, rfl, rfl, h4, r4⟩ := trodAll_cons r3
  obtain ⟨rfl, rfl, rfl⟩ := trodAll_nil r4
  obtain rfl : args = #[v0, v1, v2, v3, v4] := by cases args; simp_all
  obtain ⟨rfl, rfl⟩ := trodVars_none hV
  obtain ⟨a0, rfl, rfl, rfl, w0⟩ := open_int Try.underlying22 (hval 0 22 v0 rfl rfl) h0
  obtain ⟨a1, rfl, rfl, rfl, w1⟩ := open_int Try.underlying3 (hval 1 3 v1 rfl rfl) h1
  obtain ⟨a2, rfl, rfl, rfl, w2⟩ := open_int Try.underlying3 (hval 2 3 v2 rfl rfl) h2
  obtain ⟨a3, rfl, rfl, rfl, w3⟩ := open_int Try.underlying22 (hval 3 22 v3 rfl rfl) h3
  obtain ⟨a4, rfl, rfl, rfl, w4⟩ := open_int Try.underlying3 (hval 4 3 v4 rfl rfl) h4
  clear hA0 hval0
  refine (walk a0 a1 a2 a3 a4 w0 w1 w2 w3 w4 W).mono fun e W' ⟨he, bel⟩ => ?_
  subst he
  exact ⟨_, rfl, _, _, _, [], _, [], hW', (trodAll_cons_mk (shut_bool Try.underlying4 _) trodAll_mk0), (trodAll_cons_mk (shut_int Try.underlying22 w0) (trodAll_cons_mk (shut_int Try.underlying3 w1) (trodAll_cons_mk (shut_int Try.underlying3 w2) (trodAll_cons_mk (shut_int Try.underlying22 w3) (trodAll_cons_mk (shut_int Try.underlying3 w4) trodAll_mk0))))), rfl, bel.frame _, fun h => by cases h⟩

theorem over : Rows.wordBackRow.holds Try.pinned (OpenSpec.ofChange Rows.wordBackSpec) :=
  OpenClaim.holds_of_wide 8 Try.f8 rfl rfl rfl rfl rfl rfl rfl ⟨rfl, rfl, rfl, rfl, rfl⟩ rfl rfl rfl rfl rfl (by kernel_rfl) Try.func8 (by kernel_rfl)
    (of_decide_eq_true (by kernel_rfl)) (by unfold Func.isWrapper; first | (rw [if_pos (by decide +kernel)]; kernel_rfl) | (rw [if_neg (by decide +kernel)]; exact ⟨rfl, rfl⟩))
    (fun os started H enc _ => lifted os started H enc)

theorem proved : Rows.WordBackSaid :=
  over
#print axioms proved
end Go.Proofs.Yteeocnknocoefaa.wordBack
