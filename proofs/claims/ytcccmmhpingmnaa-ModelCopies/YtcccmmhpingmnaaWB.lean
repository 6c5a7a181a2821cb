/- ModelCopies. -/
import Derived.Test.YtcccmmhpingmnaaWA
import Derived.Test.YtcccmmhpingmnaaVD
namespace Go.Proofs.Ytcccmmhpingmnaa
open Go.RowKit
set_option linter.unusedSimpArgs false
set_option linter.unusedVariables false

theorem copy_nil (w : World) : Calls Try.prog 19 #[.pointer none] w fun r w' => r = .returned (.pointer none) ∧ w = w' := by
  go_enter Try.func19, Try.ntmps19
  go_wp2
  go_ret
  exact ⟨rfl, rfl⟩
theorem does_nil (who kd cN cH cX cY aE aH : Int) (aY : Bool) (w : World) : Calls Try.prog 16 #[.pointer none, .int .i64 who, .agg #[.int .i64 kd, .int .i64 cN, .int .u64 cH, .int .u64 cX, .int .u64 cY], .agg #[.int .i64 aE, .int .u64 aH, .bool aY]] w fun r w' => r = .returned (.bool false) ∧ Below w.heap.size w w' := by
  have cH0 := has_nil who
  have b1 := alloc_below w (.cells #[.int .i64 kd, .int .i64 cN, .int .u64 cH, .int .u64 cX, .int .u64 cY] 37)
  have b2 := alloc_below (w.alloc (.cells #[.int .i64 kd, .int .i64 cN, .int .u64 cH, .int .u64 cX, .int .u64 cY] 37)) (.cells #[.int .i64 aE, .int .u64 aH, .bool aY] 41)
  have bel := seq_below b1 b2
  go_enter Try.func16, Try.ntmps16
  go_wp2_with (go_at_call 32; with_reducible refine (cH0 _).mono ?_; rintro r w2 ⟨rfl, rfl⟩)
  go_ret
  exact ⟨rfl, bel⟩
/-- Two models apart. -/
def Two (s : Nat) (w : World) (C : Cg) (Ba Bb na nb : Nat) (Xa Xb : Sx) : Prop :=
  ∃ La Lb : Nat → Prop, IsM w Ba La C na Xa ∧ IsM w Bb Lb C nb Xb ∧ (∀ i, La i → ¬ Lb i) ∧ (∀ i, La i → s ≤ i ∧ i < w.heap.size) ∧ (∀ i, Lb i → s ≤ i ∧ i < w.heap.size)
theorem Two.swap {s : Nat} {w : World} {C : Cg} {Ba Bb na nb : Nat} {Xa Xb : Sx} (h : Two s w C Ba Bb na nb Xa Xb) : Two s w C Bb Ba nb na Xb Xa := by
  obtain ⟨La, Lb, h1, h2, h3, h4, h5⟩ := h
  exact ⟨Lb, La, h2, h1, fun i a b => h3 i b a, h5, h4⟩
theorem Two.below {s : Nat} {w w' : World} {C : Cg} {Ba Bb na nb : Nat} {Xa Xb : Sx} (h : Two s w C Ba Bb na nb Xa Xb) (b : Below w.heap.size w w') : Two s w' C Ba Bb na nb Xa Xb := by
  obtain ⟨La, Lb, h1, h2, h3, h4, h5⟩ := h
  exact ⟨La, Lb, h1.below b, h2.below b, h3, fun i hi => ⟨(h4 i hi).1, Nat.lt_of_lt_of_le (h4 i hi).2 b.size⟩, fun i hi => ⟨(h5 i hi).1, Nat.lt_of_lt_of_le (h5 i hi).2 b.size⟩⟩
/-- One of two plays. -/
theorem two_plays {w0 w : World} {C : Cg} {Ba Bb na nb : Nat} {Xa Xb : Sx} (h : Two w0.heap.size w C Ba Bb na nb Xa Xb) (b0 : Below w0.heap.size w0 w) {N : Nat} (iv : Xa.Inv N) {A : List At} (hN : N + A.length < 1000000) (hn : na + 2 * A.length < 1000000) (hCa : C.a ≤ 8) {ad : Option Addr} (cap : Nat) (hA : RdAt w0 ad A) :
    Calls Try.prog 24 #[.pointer (some ⟨Ba, 0, none⟩), .slice ad A.length cap] w fun r w' => r = .returned (.string (playsF C A 0 Xa ⟨#[]⟩).2) ∧ Two w0.heap.size w' C Ba Bb (na + 2 * A.length) nb (playsF C A 0 Xa ⟨#[]⟩).1 Xb ∧ (playsF C A 0 Xa ⟨#[]⟩).1.Inv (N + A.length) ∧ Below w0.heap.size w0 w' := by
  obtain ⟨La, Lb, h1, h2, h3, h4, h5⟩ := h
  have hA2 : RdAt w ad A := hA.kept b0.size fun a _ ha => b0.block a.block ha
  refine (plays_any h1 (fun i hi => (h4 i hi).2) iv hN hn hCa cap hA2 (fun hne a ha hl => ?_)).mono ?_
  · cases A with
    | nil => exact hne rfl
    | cons x l =>
      obtain ⟨b, off, e, hb, _⟩ := hA 0 x rfl
      rw [e] at ha
      obtain rfl := Option.some.inj ha
      have := (h4 b hl).1
      omega
  · rintro r w' ⟨h6, h7, h8, h9⟩
    refine ⟨h6, ⟨Lup La w w', Lb, h7, h2.chg h9 (fun i hb ha => h3 i ha hb), fun i ha hb => ?_, fun i ha => ?_, fun i hb => ⟨(h5 i hb).1, Nat.lt_of_lt_of_le (h5 i hb).2 h9.size⟩⟩, h8, h9.below b0 (fun i hi => (h4 i hi).1) (Nat.le_refl _)⟩
    · rcases ha with ha | ha
      · exact h3 i ha hb
      · have := (h5 i hb).2; omega
    · rcases ha with ha | ha
      · exact ⟨(h4 i ha).1, Nat.lt_of_lt_of_le (h4 i ha).2 h9.size⟩
      · exact ⟨Nat.le_trans b0.size ha.1, ha.2⟩
/-- A third one plays. -/
theorem third_plays {w0 w : World} {C : Cg} {Ba Bb Bk na nb nk : Nat} {Xa Xb Xk : Sx} {Lk : Nat → Prop} (h : Two w0.heap.size w C Ba Bb na nb Xa Xb) (hk : IsM w Bk Lk C nk Xk) {q : Nat} (hq : w0.heap.size ≤ q) (hLk : ∀ i, Lk i → q ≤ i ∧ i < w.heap.size) (hab : ∃ La Lb : Nat → Prop, IsM w Ba La C na Xa ∧ IsM w Bb Lb C nb Xb ∧ (∀ i, La i → ¬ Lb i) ∧ (∀ i, La i → w0.heap.size ≤ i ∧ i < q) ∧ (∀ i, Lb i → w0.heap.size ≤ i ∧ i < q) ∧ q ≤ w.heap.size) (b0 : Below w0.heap.size w0 w) {N : Nat} (iv : Xk.Inv N) {A : List At} (hN : N + A.length < 1000000) (hn : nk + 2 * A.length < 1000000) (hCa : C.a ≤ 8) {ad : Option Addr} (cap : Nat) (hA : RdAt w0 ad A) :
    Calls Try.prog 24 #[.pointer (some ⟨Bk, 0, none⟩), .slice ad A.length cap] w fun r w' => (∃ s, r = .returned (.string s)) ∧ Two w0.heap.size w' C Ba Bb na nb Xa Xb ∧ Below w0.heap.size w0 w' := by
  obtain ⟨La, Lb, h1, h2, h3, h4, h5, h5'⟩ := hab
  have hA2 : RdAt w ad A := hA.kept b0.size fun a _ ha => b0.block a.block ha
  refine (plays_any hk (fun i hi => (hLk i hi).2) iv hN hn hCa cap hA2 (fun hne a ha hl => ?_)).mono ?_
  · cases A with
    | nil => exact hne rfl
    | cons x l =>
      obtain ⟨b, off, e, hb, _⟩ := hA 0 x rfl
      rw [e] at ha
      obtain rfl := Option.some.inj ha
      have := (hLk b hl).1
      omega
  · rintro r w' ⟨h6, h7, h8, h9⟩
    refine ⟨⟨_, h6⟩, ⟨La, Lb, h1.chg h9 (fun i ha hk => ?_), h2.chg h9 (fun i hb hk => ?_), h3, fun i ha => ⟨(h4 i ha).1, ?_⟩, fun i hb => ⟨(h5 i hb).1, ?_⟩⟩, h9.below b0 (fun i hi => Nat.le_trans hq (hLk i hi).1) (Nat.le_refl _)⟩
    · have := (hLk i hk).1; have := (h4 i ha).2; omega
    · have := (hLk i hk).1; have := (h5 i hb).2; omega
    · have := (h4 i ha).2; have := h9.size; omega
    · have := (h5 i hb).2; have := h9.size; omega
end Go.Proofs.Ytcccmmhpingmnaa
