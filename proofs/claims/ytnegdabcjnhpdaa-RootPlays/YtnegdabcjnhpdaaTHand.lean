/- Contracts of package tag's handles: isClient, isEntry, Handle, HandleParts; and of the reference's. -/
import Derived.Test.YtnegdabcjnhpdaaTBase
namespace Go.Proofs.Ytnegdabcjnhpdaa.Tg
open Go.RowKit

def isC (n : Int) : Bool := decide (0 ≤ n) && decide (n ≤ 7)
def isE (n : Int) : Bool := (decide (0 ≤ n) && decide (n ≤ 15)) || decide (n = 255)

theorem isC_iff {n : Int} : isC n = true ↔ 0 ≤ n ∧ n ≤ 7 := by simp [isC]
theorem isE_iff {n : Int} : isE n = true ↔ (0 ≤ n ∧ n ≤ 15) ∨ n = 255 := by simp [isE]
theorem bool_of {b : Bool} {P : Prop} [Decidable P] (h : b = true ↔ P) : decide P = b := by
  by_cases hp : P
  · rw [h.2 hp]; simpa using hp
  · have : ¬ b = true := fun k => hp (h.1 k)
    rw [Bool.eq_false_iff.2 this]; simpa using hp
theorem bool_no {b : Bool} {P : Prop} (h : b = true ↔ P) (hp : ¬ P) : false = b := (Bool.eq_false_iff.2 (fun k => hp (h.1 k))).symm
theorem bool_yes {b : Bool} {P : Prop} (h : b = true ↔ P) (hp : P) : true = b := (h.2 hp).symm

theorem bool_eq {a b : Bool} (h : a = true ↔ b = true) : b = a := by cases a <;> cases b <;> simp_all

set_option maxHeartbeats 400000 in
theorem isClient_any (n : Int) (b : Bool) (hb : isC n = b) (w : World) : Calls Try.prog 33 #[.int .i64 n] w fun e w' => e = .returned (.bool b) ∧ w = w' := by
  subst hb
  go_enter Try.func33, Try.ntmps33
  go_wp2
  all_goals go_ret
  · exact ⟨congrArg (fun b => Ending.returned (Value.bool b)) (bool_of (by rw [isC_iff]; omega)), rfl⟩
  · exact ⟨congrArg (fun b => Ending.returned (Value.bool b)) (bool_no isC_iff (by omega)), rfl⟩

set_option maxHeartbeats 400000 in
theorem isEntry_any (n : Int) (b : Bool) (hb : isE n = b) (w : World) : Calls Try.prog 34 #[.int .i64 n] w fun e w' => e = .returned (.bool b) ∧ w = w' := by
  subst hb
  go_enter Try.func34, Try.ntmps34
  go_wp2
  all_goals go_ret
  · refine ⟨congrArg (fun b => Ending.returned (Value.bool b)) ?_, rfl⟩
    have h1 : decide (n < 16) = false := decide_eq_false (by omega)
    rw [h1, Bool.false_or]
    exact (bool_eq (b := n == 255) (by rw [isE_iff, beq_iff_eq]; omega))
  · exact ⟨congrArg (fun b => Ending.returned (Value.bool b)) (bool_yes isE_iff (by omega)), rfl⟩
  · refine ⟨congrArg (fun b => Ending.returned (Value.bool b)) ?_, rfl⟩
    exact (bool_eq (b := n == 255) (by rw [isE_iff, beq_iff_eq]; omega))

/-- Whether there is a handle, and the handle. -/
def hOk (c e : Int) (t : Nat) : Bool := isC c && isE e && decide (1 ≤ t) && decide (t < 4294967296)
def hW (c e : Int) (t : Nat) : Nat := if hOk c e t = true then 72057594037927936 * (c + 1).toNat + 281474976710656 * e.toNat + t else 0
theorem hOk_iff {c e : Int} {t : Nat} : hOk c e t = true ↔ (0 ≤ c ∧ c ≤ 7) ∧ ((0 ≤ e ∧ e ≤ 15) ∨ e = 255) ∧ 1 ≤ t ∧ t < 4294967296 := by
  unfold hOk
  rw [Bool.and_eq_true, Bool.and_eq_true, Bool.and_eq_true, isC_iff, isE_iff, decide_eq_true_iff, decide_eq_true_iff]
  omega
theorem hW_yes {c e : Int} {t : Nat} (h : hOk c e t = true) : hW c e t = 72057594037927936 * (c + 1).toNat + 281474976710656 * e.toNat + t := by unfold hW; rw [if_pos h]
theorem hW_no {c e : Int} {t : Nat} (h : hOk c e t = false) : hW c e t = 0 := by unfold hW; rw [if_neg (by simp [h])]
theorem hOk_no {c e : Int} {t : Nat} (h : ¬ ((0 ≤ c ∧ c ≤ 7) ∧ ((0 ≤ e ∧ e ≤ 15) ∨ e = 255) ∧ 1 ≤ t ∧ t < 4294967296)) : hOk c e t = false := (bool_no hOk_iff h).symm

def pN (i : Nat) : Int := [32, 16, 8, 8].getD i 0
def pV (t e c : Nat) (i : Nat) : Nat := [t, 0, e, c].getD i 0

theorem hand_pack_yes (t e c : Nat) (ht : t < 4294967296) (he : e < 256) (hc : c < 256) : packSt pN (pV t e c) 4 = some (72057594037927936 * c + 281474976710656 * e + t, 64) := by
  obtain ⟨e1, b1⟩ := pack_step_yes (N := pN) (V := pV t e c) (k := 0) (W := 0) (a := 0) (n := 32) (v := t) rfl (by decide) rfl (by omega) (by omega) rfl (by omega)
  obtain ⟨e2, b2⟩ := pack_step_yes (n := 16) (v := 0) e1 b1 rfl (by omega) (by omega) rfl (by omega)
  obtain ⟨e3, b3⟩ := pack_step_yes (n := 8) (v := e) e2 b2 rfl (by omega) (by omega) rfl (by omega)
  obtain ⟨e4, b4⟩ := pack_step_yes (n := 8) (v := c) e3 b3 rfl (by omega) (by omega) rfl (by omega)
  refine e4.trans (congrArg some (Prod.ext ?_ rfl))
  simp only [Nat.zero_add]
  omega

theorem hand_pack_no (t e c : Nat) (ht : ¬ t < 4294967296) : packSt pN (pV t e c) 4 = none :=
  packSt_none (k := 1) (pack_step_no (N := pN) (V := pV t e c) (k := 0) (W := 0) (a := 0) (n := 32) rfl rfl (by show ¬ t < 4294967296; exact ht)) 4 (by omega)

theorem hand_call (w : World) (t e c : Nat) (ht : t < 18446744073709551616) (he : e < 256) (hc : c < 256) :
    Calls Try.prog 35 #[.slice (some ⟨w.heap.size, 0, none⟩) 4 4] (w.alloc (Obj.cells #[Value.int IntKind.i64 32, Value.int IntKind.u64 (t : Nat), Value.int IntKind.i64 16, Value.int IntKind.u64 0, Value.int IntKind.i64 8, Value.int IntKind.u64 (e : Nat), Value.int IntKind.i64 8, Value.int IntKind.u64 (c : Nat)] 62)) fun en w' =>
      en = .returned (.tuple #[.int .u64 ((if t < 4294967296 then 72057594037927936 * c + 281474976710656 * e + t else 0 : Nat) : Int), .bool (decide (t < 4294967296))]) ∧ Below w.heap.size w w' := by
  have h := pack_some pN (pV t e c) w.heap.size 0 4 4 (w.alloc (Obj.cells #[Value.int IntKind.i64 32, Value.int IntKind.u64 (t : Nat), Value.int IntKind.i64 16, Value.int IntKind.u64 0, Value.int IntKind.i64 8, Value.int IntKind.u64 (e : Nat), Value.int IntKind.i64 8, Value.int IntKind.u64 (c : Nat)] 62))
    (fun i hi => by
      have h2 : i = 0 ∨ i = 1 ∨ i = 2 ∨ i = 3 := by omega
      rcases h2 with rfl | rfl | rfl | rfl <;> exact new_at w _ 62 _ _ rfl)
    (fun i hi => by
      have h2 : i = 0 ∨ i = 1 ∨ i = 2 ∨ i = 3 := by omega
      rcases h2 with rfl | rfl | rfl | rfl <;> exact new_at w _ 62 _ _ rfl)
    (fun i hi => by
      have h2 : i = 0 ∨ i = 1 ∨ i = 2 ∨ i = 3 := by omega
      rcases h2 with rfl | rfl | rfl | rfl <;> decide)
    (fun i hi => by
      have h2 : i = 0 ∨ i = 1 ∨ i = 2 ∨ i = 3 := by omega
      rcases h2 with rfl | rfl | rfl | rfl
      · exact ht
      · show 0 < 18446744073709551616; omega
      · show e < 18446744073709551616; omega
      · show c < 18446744073709551616; omega) (by omega) (lt_of_block (MapKept.heap_alloc w _).1)
  by_cases hf : t < 4294967296
  · rw [hand_pack_yes t e c hf he hc] at h
    rw [if_pos hf, decide_eq_true hf]
    exact h.mono fun e w' ⟨h1, h2⟩ => ⟨h1, seq_below ((Below.refl w.heap.size w).alloc (Nat.le_refl _) _) h2⟩
  · rw [hand_pack_no t e c hf] at h
    rw [if_neg hf, decide_eq_false hf]
    exact h.mono fun e w' ⟨h1, h2⟩ => ⟨h1, seq_below ((Below.refl w.heap.size w).alloc (Nat.le_refl _) _) h2⟩

set_option maxHeartbeats 1000000 in
theorem handle_any (c e : Int) (t : Nat) (ht : t < 18446744073709551616) (w : World) :
    Calls Try.prog 20 #[.int .i64 c, .int .i64 e, .int .u64 t] w fun en w' => en = .returned (.tuple #[.int .u64 (hW c e t : Nat), .bool (hOk c e t)]) ∧ Below w.heap.size w w' := by
  have c1 := isClient_any c _ rfl
  have c2 := isEntry_any e _ rfl
  cases hc : isC c
  · have h0 : hOk c e t = false := by unfold hOk; rw [hc]; rfl
    rw [h0, hW_no h0]
    rw [hc] at c1
    clear hc h0 ht
    generalize (t : Int) = z at *
    go_enter Try.func20, Try.ntmps20
    go_wp2_with (first
      | (go_at_call 33; refine (c1 _).mono ?_; rintro e w' ⟨rfl, rfl⟩))
    go_ret2
    exact ⟨rfl, Below.refl _ _⟩
  · cases he : isE e
    · have h0 : hOk c e t = false := by unfold hOk; rw [hc, he]; rfl
      rw [h0, hW_no h0]
      rw [hc] at c1
      rw [he] at c2
      clear hc he h0 ht
      generalize (t : Int) = z at *
      go_enter Try.func20, Try.ntmps20
      go_wp2_with (first
        | (go_at_call 33; refine (c1 _).mono ?_; rintro e w' ⟨rfl, rfl⟩)
        | (go_at_call 34; refine (c2 _).mono ?_; rintro e w' ⟨rfl, rfl⟩))
      go_ret2
      exact ⟨rfl, Below.refl _ _⟩
    · by_cases h1 : t = 0
      · have h0 : hOk c e t = false := hOk_no (by omega)
        rw [h0, hW_no h0]
        rw [hc] at c1
        rw [he] at c2
        clear hc he h0 ht
        subst h1
        go_enter Try.func20, Try.ntmps20
        go_wp2_with (first
          | (go_at_call 33; refine (c1 _).mono ?_; rintro e w' ⟨rfl, rfl⟩)
          | (go_at_call 34; refine (c2 _).mono ?_; rintro e w' ⟨rfl, rfl⟩))
        go_ret2
        exact ⟨rfl, Below.refl _ _⟩
      · have hc' := isC_iff.1 hc
        have he' := isE_iff.1 he
        have k1 : hOk c e t = decide (t < 4294967296) := by
          unfold hOk; rw [hc, he, decide_eq_true (by omega : 1 ≤ t)]; rfl
        have k2 : hW c e t = (if t < 4294967296 then 72057594037927936 * (c + 1).toNat + 281474976710656 * e.toNat + t else 0) := by
          by_cases hf : t < 4294967296
          · rw [if_pos hf, hW_yes (by rw [k1]; exact decide_eq_true hf)]
          · rw [if_neg hf, hW_no (by rw [k1]; exact decide_eq_false hf)]
        have c3 := fun w => hand_call w t e.toNat (c + 1).toNat ht (by omega) (by omega)
        rw [show ((e.toNat : Nat) : Int) = e by omega, show (((c + 1).toNat : Nat) : Int) = c + 1 by omega, ← k1, ← k2] at c3
        rw [hc] at c1
        rw [he] at c2
        have hz : ¬ (t : Int) = 0 := by omega
        have he2 : 0 ≤ e ∧ e ≤ 255 := by omega
        clear hc he k1 k2 ht h1 he'
        generalize hW c e t = X at *
        generalize hOk c e t = Y at *
        generalize (t : Int) = z at *
        go_enter Try.func20, Try.ntmps20
        go_wp2_with (first
          | (go_at_call 33; refine (c1 _).mono ?_; rintro e w' ⟨rfl, rfl⟩)
          | (go_at_call 34; refine (c2 _).mono ?_; rintro e w' ⟨rfl, rfl⟩)
          | (go_at_call 35; refine (c3 _).mono ?_; rintro e w' ⟨rfl, b⟩))
        go_ret2
        exact ⟨rfl, b⟩

set_option maxHeartbeats 1000000 in
theorem rhandle_any (c e : Int) (t : Nat) (ht : t < 18446744073709551616) (w : World) :
    Calls Try.prog 8 #[.int .i64 c, .int .i64 e, .int .u64 t] w fun en w' => en = .returned (.tuple #[.int .u64 (hW c e t : Nat), .bool (hOk c e t)]) ∧ w = w' := by
  have hk := hOk_iff (c := c) (e := e) (t := t)
  cases hb : hOk c e t
  · rw [hW_no hb]
    have hn : ¬ ((0 ≤ c ∧ c ≤ 7) ∧ ((0 ≤ e ∧ e ≤ 15) ∨ e = 255) ∧ 1 ≤ (t : Int) ∧ (t : Int) < 4294967296) := by
      intro hh
      have := hk.2 (by omega)
      rw [hb] at this; cases this
    have h0 : 0 ≤ (t : Int) := by omega
    clear hk hb ht
    generalize (t : Int) = z at *
    go_enter Try.func8, Try.ntmps8
    have HN : Hid (¬ ((0 ≤ c ∧ c ≤ 7) ∧ ((0 ≤ e ∧ e ≤ 15) ∨ e = 255) ∧ 1 ≤ z ∧ z < 4294967296)) := hn
    clear hn
    go_wp2
    all_goals first
      | (go_ret2; exact ⟨rfl, rfl⟩)
      | (exfalso; have := HN.out; omega)
  · have hh := hk.1 hb
    have e3 : Hid (((hW c e t : Nat) : Int) = 72057594037927936 * (c + 1) + 281474976710656 * e + (t : Int)) := by
      show ((hW c e t : Nat) : Int) = _
      rw [hW_yes hb]; omega
    have h1 : 1 ≤ (t : Int) ∧ (t : Int) < 4294967296 := by omega
    obtain ⟨hc, he, _⟩ := hh
    clear hk hb ht
    generalize hW c e t = X at *
    generalize (t : Int) = z at *
    have hz : (z == 0) = false := by simp; omega
    have hd1 : decide (c < 0) = false := decide_eq_false (by omega)
    have hd2 : decide (7 < c) = false := decide_eq_false (by omega)
    have hd3 : decide (4294967296 ≤ z) = false := decide_eq_false (by omega)
    rcases he with he | rfl
    · have hd4 : decide (e < 0) = false := decide_eq_false (by omega)
      have hd5 : decide (15 < e) = false := decide_eq_false (by omega)
      go_enter Try.func8, Try.ntmps8
      go_wp2
      go_ret2
      refine ⟨?_, rfl⟩
      rw [e3.out]
      rfl
    · go_enter Try.func8, Try.ntmps8
      go_wp2
      go_ret2
      refine ⟨?_, rfl⟩
      rw [e3.out]
      rfl

/-- Whether a number is a handle. -/
def pOk (h : Nat) : Bool := decide (1 ≤ h / 72057594037927936) && decide (h / 72057594037927936 ≤ 8) && (decide (h / 281474976710656 % 256 ≤ 15) || decide (h / 281474976710656 % 256 = 255)) && decide (1 ≤ h % 281474976710656) && decide (h % 281474976710656 < 4294967296)
theorem pOk_iff {h : Nat} : pOk h = true ↔ 1 ≤ h / 72057594037927936 ∧ h / 72057594037927936 ≤ 8 ∧ (h / 281474976710656 % 256 ≤ 15 ∨ h / 281474976710656 % 256 = 255) ∧ 1 ≤ h % 281474976710656 ∧ h % 281474976710656 < 4294967296 := by
  simp [pOk, and_assoc]

theorem pOk_back (h : Nat) :
    pOk h = true ↔ hOk (((h / 72057594037927936 : Nat) : Int) - 1) ((h / 281474976710656 % 256 : Nat) : Int) (h % 4294967296) = true ∧ hW (((h / 72057594037927936 : Nat) : Int) - 1) ((h / 281474976710656 % 256 : Nat) : Int) (h % 4294967296) = h := by
  rw [pOk_iff]
  constructor
  · intro k
    have h1 : hOk (((h / 72057594037927936 : Nat) : Int) - 1) ((h / 281474976710656 % 256 : Nat) : Int) (h % 4294967296) = true := by
      rw [hOk_iff]; omega
    refine ⟨h1, ?_⟩
    rw [hW_yes h1]
    omega
  · rintro ⟨h1, h2⟩
    rw [hW_yes h1] at h2
    rw [hOk_iff] at h1
    omega

theorem get_at (h : Nat) (hh : h < 18446744073709551616) (a n : Nat) (hn : 1 ≤ n) (han : a + n ≤ 64) (x : Nat) (hx : h / 2 ^ a % 2 ^ n = x) (w : World) :
    Calls Try.prog 36 #[.int .u64 h, .int .i64 (a : Nat), .int .i64 (n : Nat)] w fun e w' => e = .returned (.int .u64 (x : Nat)) ∧ Below w.heap.size w w' := by
  have k := get_yes h a n hh hn han w
  rw [getN_div, hx] at k
  exact k.mono fun e w' ⟨h1, m, h2⟩ => ⟨h1, h2 ▸ below_drewN (Below.refl _ _) _⟩

theorem get_client (h : Nat) (hh : h < 18446744073709551616) (w : World) : Calls Try.prog 36 #[.int .u64 h, .int .i64 56, .int .i64 8] w fun e w' => e = .returned (.int .u64 (h / 72057594037927936 : Nat)) ∧ Below w.heap.size w w' :=
  get_at h hh 56 8 (by omega) (by omega) (h / 72057594037927936) (Nat.mod_eq_of_lt (by omega)) w
theorem get_entry (h : Nat) (hh : h < 18446744073709551616) (w : World) : Calls Try.prog 36 #[.int .u64 h, .int .i64 48, .int .i64 8] w fun e w' => e = .returned (.int .u64 (h / 281474976710656 % 256 : Nat)) ∧ Below w.heap.size w w' :=
  get_at h hh 48 8 (by omega) (by omega) _ rfl w
theorem get_tag (h : Nat) (hh : h < 18446744073709551616) (w : World) : Calls Try.prog 36 #[.int .u64 h, .int .i64 0, .int .i64 32] w fun e w' => e = .returned (.int .u64 (h % 4294967296 : Nat)) ∧ Below w.heap.size w w' :=
  get_at h hh 0 32 (by omega) (by omega) (h % 4294967296) (by rw [Nat.pow_zero, Nat.div_one]) w

/-- What a number's parts are told as. -/
def pC (h : Nat) : Int := if pOk h = true then ((h / 72057594037927936 : Nat) : Int) - 1 else 0
def pE (h : Nat) : Int := if pOk h = true then ((h / 281474976710656 % 256 : Nat) : Int) else 0
def pT (h : Nat) : Nat := if pOk h = true then h % 4294967296 else 0

theorem results_tmp4 {fn : Func} {t u v x : Tmp} (h : fn.results = #[.tmp t, .tmp u, .tmp v, .tmp x]) (tmps : Array Value) (P : Program) (w : World) :
    (results fn tmps).run P w = .ok (.tuple #[tmps.getD t undef, tmps.getD u undef, tmps.getD v undef, tmps.getD x undef]) w := by
  simp [results, h]

set_option maxHeartbeats 2000000 in
theorem parts_any (h : Nat) (hh : h < 18446744073709551616) (w : World) :
    Calls Try.prog 22 #[.int .u64 h] w fun e w' => e = .returned (.tuple #[.int .i64 (pC h), .int .i64 (pE h), .int .u64 (pT h : Nat), .bool (pOk h)]) ∧ Below w.heap.size w w' := by
  have c1 := get_client h hh
  have c2 := get_entry h hh
  have c3 := get_tag h hh
  have c4 := handle_any (((h / 72057594037927936 : Nat) : Int) - 1) ((h / 281474976710656 % 256 : Nat) : Int) (h % 4294967296) (by omega)
  have hp := pOk_back h
  have b1 : 0 ≤ ((h / 72057594037927936 : Nat) : Int) ∧ ((h / 72057594037927936 : Nat) : Int) ≤ 255 := by omega
  have b2 : 0 ≤ ((h / 281474976710656 % 256 : Nat) : Int) ∧ ((h / 281474976710656 % 256 : Nat) : Int) ≤ 255 := by omega
  have d1 : pC h = if pOk h = true then ((h / 72057594037927936 : Nat) : Int) - 1 else 0 := rfl
  have d2 : pE h = if pOk h = true then ((h / 281474976710656 % 256 : Nat) : Int) else 0 := rfl
  have d3 : ((pT h : Nat) : Int) = if pOk h = true then ((h % 4294967296 : Nat) : Int) else 0 := by unfold pT; split <;> rfl
  generalize hW (((h / 72057594037927936 : Nat) : Int) - 1) ((h / 281474976710656 % 256 : Nat) : Int) (h % 4294967296) = X at *
  generalize hOk (((h / 72057594037927936 : Nat) : Int) - 1) ((h / 281474976710656 % 256 : Nat) : Int) (h % 4294967296) = Y at *
  generalize ((h / 72057594037927936 : Nat) : Int) = C at *
  generalize ((h / 281474976710656 % 256 : Nat) : Int) = E at *
  generalize ((h % 4294967296 : Nat) : Int) = T at *
  rw [d1, d2, d3]
  clear d1 d2 d3
  cases Y
  · have hb : pOk h = false := (bool_no hp (by simp)).symm
    rw [hb]
    clear hp hb hh
    generalize (h : Int) = H at *
    generalize (X : Int) = X at *
    go_enter Try.func22, Try.ntmps22
    go_wp2_with (first
      | (go_at_call 36; first | (with_reducible refine (c1 _).mono ?_; rintro e w1 ⟨rfl, b3⟩) | (with_reducible refine (c2 _).mono ?_; rintro e w2 ⟨rfl, b4⟩) | (with_reducible refine (c3 _).mono ?_; rintro e w3 ⟨rfl, b5⟩))
      | (go_at_call 20; refine (c4 _).mono ?_; rintro e w4 ⟨rfl, b6⟩))
    refine bodyPost_ret (results_tmp4 rfl _ _ _) rfl ?_
    exact ⟨rfl, seq_below (seq_below (seq_below b3 b4) b5) b6⟩
  · by_cases hx : X = h
    · have hb : pOk h = true := hp.2 ⟨rfl, hx⟩
      rw [hb]
      subst hx
      clear hp hb hh
      generalize (X : Int) = H at *
      go_enter Try.func22, Try.ntmps22
      go_wp2_with (first
        | (go_at_call 36; first | (with_reducible refine (c1 _).mono ?_; rintro e w1 ⟨rfl, b3⟩) | (with_reducible refine (c2 _).mono ?_; rintro e w2 ⟨rfl, b4⟩) | (with_reducible refine (c3 _).mono ?_; rintro e w3 ⟨rfl, b5⟩))
        | (go_at_call 20; refine (c4 _).mono ?_; rintro e w4 ⟨rfl, b6⟩))
      refine bodyPost_ret (results_tmp4 rfl _ _ _) rfl ?_
      exact ⟨rfl, seq_below (seq_below (seq_below b3 b4) b5) b6⟩
    · have hb : pOk h = false := (bool_no hp (by simp [hx])).symm
      rw [hb]
      have hx2 : ¬ (X : Int) = (h : Int) := by omega
      clear hp hb hh hx
      generalize (h : Int) = H at *
      generalize (X : Int) = X at *
      go_enter Try.func22, Try.ntmps22
      go_wp2_with (first
        | (go_at_call 36; first | (with_reducible refine (c1 _).mono ?_; rintro e w1 ⟨rfl, b3⟩) | (with_reducible refine (c2 _).mono ?_; rintro e w2 ⟨rfl, b4⟩) | (with_reducible refine (c3 _).mono ?_; rintro e w3 ⟨rfl, b5⟩))
        | (go_at_call 20; refine (c4 _).mono ?_; rintro e w4 ⟨rfl, b6⟩))
      refine bodyPost_ret (results_tmp4 rfl _ _ _) rfl ?_
      exact ⟨rfl, seq_below (seq_below (seq_below b3 b4) b5) b6⟩
end Go.Proofs.Ytnegdabcjnhpdaa.Tg
