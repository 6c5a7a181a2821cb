/- Layer 18: HistRights, HistPoints, HistRespects, HistOrders. -/
import Derived.Test.YthihdaloonagoaaHRa
namespace Go.Proofs.Ythihdaloonagoaa
open Go.RowKit Go.Sort
set_option linter.unusedSimpArgs false
set_option linter.unusedVariables false

theorem bool_same {a b : Bool} {p : Prop} (ha : a = true ↔ p) (hb : b = true ↔ p) : a = b := Bool.eq_iff_iff.2 (ha.trans hb.symm)
theorem right_at {w : World} {ad : Option Addr} {n : Nat} (cap : Nat) {E : List Ev} (hE : n = E.length) (hR : RdEv w ad E) (hn : n < 400000000) (c : Int) {rb : Bool} (h : rb = true ↔ RightP E c) {w' : World} (b : Below w.heap.size w w') :
    Calls Try.prog 8 #[.slice ad n cap, .int .i64 c] w' fun r w'' => r = .returned (.bool rb) ∧ Below w.heap.size w w'' :=
  (hright_any cap hE (hR.below b) hn c).mono fun r w'' ⟨x, h1, h2, h3⟩ => ⟨by rw [h1, bool_same h2 h], seq_below b h3⟩
theorem rright_at {w : World} {ad : Option Addr} {n : Nat} (cap : Nat) {E : List Ev} (hE : n = E.length) (hR : RdEv w ad E) (hn : n < 400000000) (c : Int) {rb : Bool} (h : rb = true ↔ RightP E c) {w' : World} (b : Below w.heap.size w w') :
    Calls Try.prog 9 #[.slice ad n cap, .int .i64 c] w' fun r w'' => r = .returned (.bool rb) ∧ Below w.heap.size w w'' :=
  (rright_any cap hE (hR.below b) hn c).mono fun r w'' ⟨x, h1, h2, h3⟩ => ⟨by rw [h1, bool_same h2 h], seq_below b h3⟩
theorem resp_at {w : World} {ad ao : Option Addr} {n m : Nat} (cap capo : Nat) {E : List Ev} (hE : n = E.length) (hR : RdEv w ad E) (hn : n < 400000000) (hW : ∀ e ∈ E, -9223372036854775808 ≤ e.en) {O : List Int} (hO : m = O.length) (hZ : RdZ w ao O) {rb : Bool} (h : rb = true ↔ RespP E O) {w' : World} (b : Below w.heap.size w w') :
    Calls Try.prog 15 #[.slice ad n cap, .slice ao m capo] w' fun r w'' => r = .returned (.bool rb) ∧ Below w.heap.size w w'' :=
  (hresp_any cap capo hE (hR.below b) hn hW hO (hZ.below b)).mono fun r w'' ⟨x, h1, h2, h3⟩ => ⟨by rw [h1, bool_same h2 h], seq_below b h3⟩
theorem rresp_at {w : World} {ad ao : Option Addr} {n m : Nat} (cap capo : Nat) {E : List Ev} (hE : n = E.length) (hR : RdEv w ad E) (hn : n < 400000000) {O : List Int} (hO : m = O.length) (hZ : RdZ w ao O) {rb : Bool} (h : rb = true ↔ RespP E O) {w' : World} (b : Below w.heap.size w w') :
    Calls Try.prog 16 #[.slice ad n cap, .slice ao m capo] w' fun r w'' => r = .returned (.bool rb) ∧ Below w.heap.size w w'' :=
  (rresp_any cap capo hE (hR.below b) hn hO (hZ.below b)).mono fun r w'' ⟨x, h1, h2, h3⟩ => ⟨by rw [h1, bool_same h2 h], seq_below b h3⟩
theorem resp_yes {w w' : World} {ad ao : Option Addr} {n m : Nat} (cap capo : Nat) {E : List Ev} (hE : n = E.length) (hR : RdEv w ad E) (hn : n < 400000000) (hW : ∀ e ∈ E, -9223372036854775808 ≤ e.en) {O : List Int} (hO : m = O.length) (b : Below w.heap.size w w') (hZ : RdZ w' ao O) (h : RespP E O) :
    Calls Try.prog 15 #[.slice ad n cap, .slice ao m capo] w' fun r w'' => r = .returned (.bool true) ∧ Below w.heap.size w w'' :=
  (hresp_any cap capo hE (hR.below b) hn hW hO hZ).mono fun r w'' ⟨x, h1, h2, h3⟩ => ⟨by rw [h1, h2.2 h], seq_below b h3⟩
theorem awake_at {w w' : World} (b : Below w.heap.size w w') : Calls Try.prog 10 #[] w' fun r w'' => r = .returned (.bool true) ∧ Below w.heap.size w w'' := (awake_any w').mono fun r w'' ⟨h1, h2⟩ => ⟨h1, seq_below b h2⟩
set_option maxRecDepth 100000 in
set_option maxHeartbeats 4000000 in
theorem rights_law {w : World} {ad : Option Addr} {n : Nat} (cap : Nat) {E : List Ev} (hE : n = E.length) (hR : RdEv w ad E) (c : Int) : Calls Try.prog 3 #[.slice ad n cap, .int .i64 c] w fun r w' => r = .returned (.bool true) ∧ Below w.heap.size w w' := by
  obtain ⟨rb, hrb⟩ := is_bool (RightP E c)
  have B0 := Below.refl w.heap.size w
  by_cases hn : 60 < n
  · have hnz : (60 : Int) < (n : Int) := by omega
    have hnd : decide ((60 : Int) < (n : Int)) = true := decide_eq_true hnz
    clear hE
    go_enter Try.func3, Try.ntmps3
    go_wp2_with (go_at_call 10; with_reducible refine (awake_at B0).mono ?_; rintro r w1 ⟨rfl, b⟩; replace B0 := b; clear b)
    go_ret
    exact ⟨rfl, B0⟩
  · have hnd : decide ((60 : Int) < (n : Int)) = false := decide_eq_false (by omega)
    have c1 := hid1 (fun w' (b : Below w.heap.size w w') => right_at cap hE hR (by omega) c hrb b)
    have c2 := hid1 (fun w' (b : Below w.heap.size w w') => rright_at cap hE hR (by omega) c hrb b)
    clear hrb hE
    go_enter Try.func3, Try.ntmps3
    go_wp2_with (first | (go_at_call 8; with_reducible refine (c1.out _ B0).mono ?_; rintro r w1 ⟨rfl, b⟩; replace B0 := b; clear b) | (go_at_call 9; with_reducible refine (c2.out _ B0).mono ?_; rintro r w1 ⟨rfl, b⟩; replace B0 := b; clear b) | (go_at_call 10; with_reducible refine (awake_at B0).mono ?_; rintro r w1 ⟨rfl, b⟩; replace B0 := b; clear b))
    go_ret
    exact ⟨rfl, B0⟩
theorem points_resp {E : List Ev} {c : Int} {l : List Nat} (h : RightP E c) (ho : IsOrd (ltN (evP E)) E.length l) : RespP E (l.map fun (x : Nat) => (x : Int)) := by
  have get : ∀ (k : Nat) (x : Int), (l.map fun (x : Nat) => (x : Int))[k]? = some x → ∃ y : Nat, l[k]? = some y ∧ x = (y : Int) := fun k x hk => by
    rw [List.getElem?_map] at hk
    cases hl : l[k]? with
    | none => rw [hl] at hk; cases hk
    | some y => rw [hl] at hk; exact ⟨y, rfl, (Option.some.inj hk).symm⟩
  refine ⟨by rw [List.length_map, ho.len], fun k x hk => ?_, fun j k x y hj hk hjk => ?_, fun j k x y e f hj hk hjk he hf => ?_⟩
  · obtain ⟨y, hy, rfl⟩ := get k x hk
    have := ho.sm hy
    omega
  · obtain ⟨a, ha, rfl⟩ := get j x hj
    obtain ⟨b, hb, rfl⟩ := get k y hk
    have := rl_ne (evP_swo E) (ho.lr ha hb hjk)
    omega
  · obtain ⟨a, ha, rfl⟩ := get j x hj
    obtain ⟨b, hb, rfl⟩ := get k y hk
    rw [Int.toNat_natCast] at he hf
    have r := ho.lr ha hb hjk
    have o1 := (h.1 a e he).2.2
    have o2 := (h.1 b f hf).2.2
    unfold rl at r
    simp only [ltN, evP, List.getD_eq_getElem?_getD, he, hf, Option.getD_some, Bool.or_eq_true, Bool.and_eq_true, Bool.not_eq_true', decide_eq_true_eq, decide_eq_false_iff_not, ptI_lt] at r
    omega
theorem order_at {w : World} {ad : Option Addr} {n : Nat} (cap : Nat) {E : List Ev} (hE : n = E.length) (hR : RdEv w ad E) (hn : n < 400000000) {w' : World} (b : Below w.heap.size w w') :
    Calls Try.prog 11 #[.slice ad n cap] w' fun r w'' => ∃ a, r = .returned (.slice a n n) ∧ Hid (∃ l, IsOrd (ltN (evP E)) n l ∧ RdZ w'' a (l.map fun (x : Nat) => (x : Int))) ∧ Below w.heap.size w w'' :=
  (order_any cap hE (hR.below b) hn).mono fun r w'' ⟨a, h1, h2, h3⟩ => ⟨a, h1, h2, seq_below b h3⟩
set_option maxRecDepth 100000 in
set_option maxHeartbeats 4000000 in
theorem points_law {w : World} {ad : Option Addr} {n : Nat} (cap : Nat) {E : List Ev} (hE : n = E.length) (hR : RdEv w ad E) (hW : ∀ e ∈ E, -9223372036854775808 ≤ e.en) (c : Int) : Calls Try.prog 6 #[.slice ad n cap, .int .i64 c] w fun r w' => r = .returned (.bool true) ∧ Below w.heap.size w w' := by
  obtain ⟨rb, hrb⟩ := is_bool (RightP E c)
  have B0 := Below.refl w.heap.size w
  by_cases hn : 60 < n
  · have hnz : (60 : Int) < (n : Int) := by omega
    have hnd : decide ((60 : Int) < (n : Int)) = true := decide_eq_true hnz
    clear hE hW
    go_enter Try.func6, Try.ntmps6
    go_wp2_with (go_at_call 10; with_reducible refine (awake_at B0).mono ?_; rintro r w1 ⟨rfl, b⟩; replace B0 := b; clear b)
    go_ret
    exact ⟨rfl, B0⟩
  · have hnd : decide ((60 : Int) < (n : Int)) = false := decide_eq_false (by omega)
    have c1 := hid1 (fun w' (b : Below w.heap.size w w') => right_at cap hE hR (by omega) c hrb b)
    have c2 := hid1 (fun w' (b : Below w.heap.size w w') => order_at cap hE hR (by omega) b)
    have c3 := hid1 (fun w' (b : Below w.heap.size w w') (O : List Int) (a : Option Addr) (hO : n = O.length) (hZ : RdZ w' a O) (h : RespP E O) => resp_yes (m := n) cap n hE hR (by omega) hW hO b hZ h)
    replace hW := hid1 hW
    replace hE := hid1 hE
    cases rb with
    | true =>
      have hr := hid1 (hrb.1 rfl)
      clear hrb
      go_enter Try.func6, Try.ntmps6
      go_wp2_with (first | (go_at_call 8; with_reducible refine (c1.out _ B0).mono ?_; rintro r w1 ⟨rfl, b⟩; replace B0 := b; clear b) | (go_at_call 11; with_reducible refine (c2.out _ B0).mono ?_; rintro r w1 ⟨a, rfl, hO, b⟩; replace B0 := b; clear b) | (go_at_call 15; obtain ⟨l, O, Z⟩ := hO.out; refine (c3.out _ B0 _ a (by rw [List.length_map, O.len]) Z (points_resp hr.out (by rw [← hE.out]; exact O))).mono ?_; clear Z O; rintro r w1 ⟨rfl, b⟩; replace B0 := b; clear b) | (go_at_call 10; with_reducible refine (awake_at B0).mono ?_; rintro r w1 ⟨rfl, b⟩; replace B0 := b; clear b))
      go_ret
      exact ⟨rfl, B0⟩
    | false =>
      clear hrb
      go_enter Try.func6, Try.ntmps6
      go_wp2_with (first | (go_at_call 8; with_reducible refine (c1.out _ B0).mono ?_; rintro r w1 ⟨rfl, b⟩; replace B0 := b; clear b) | (go_at_call 10; with_reducible refine (awake_at B0).mono ?_; rintro r w1 ⟨rfl, b⟩; replace B0 := b; clear b))
      go_ret
      exact ⟨rfl, B0⟩
end Go.Proofs.Ythihdaloonagoaa
