/- Contract of the statement's 'same': a table's entries are those of two rows. -/
import Derived.Test.YtnegdabcjnhpdaaROwn
namespace Go.Proofs.Ytnegdabcjnhpdaa
open Go.RowKit
open Mm (Only wordsOf)

/-- Two rows: the entries' tags, and what they hold. -/
def enTs (A : List En) : Array Value := (A.map fun x => Value.int .u64 (x.1 : Nat)).toArray
def enSs (A : List En) : Array Value := (A.map fun x => Value.int .i64 x.2).toArray
structure Rw (w : World) (G F : Nat) (A : List En) : Prop where
  tg : w.heap[G]? = some (.cells (enTs A) 24 (0, 0))
  sl : w.heap[F]? = some (.cells (enSs A) 3 (0, 0))
theorem Rw.chg {L : List Nat} {w w' : World} {G F : Nat} {A : List En} (h : Rw w G F A) (c : Chg L w w') (h1 : G ∉ L) (h2 : F ∉ L) : Rw w' G F A := ⟨c.at h.tg h1, c.at h.sl h2⟩
theorem Rw.below {w w' : World} {G F : Nat} {A : List En} (h : Rw w G F A) (b : Below w.heap.size w w') : Rw w' G F A := h.chg (L := []) (Chg.of_below b) (by simp) (by simp)
theorem Rw.t {w : World} {G F : Nat} {A : List En} (h : Rw w G F A) {i : Nat} (hi : i < A.length) : w.cell? ⟨G, i, none⟩ = some (.int .u64 ((A.getD i (0, 0)).1 : Nat)) := by
  have h' := h.tg
  simp [World.cell?, h', enTs, hi]
theorem Rw.s {w : World} {G F : Nat} {A : List En} (h : Rw w G F A) {i : Nat} (hi : i < A.length) : w.cell? ⟨F, i, none⟩ = some (.int .i64 (A.getD i (0, 0)).2) := by
  have h' := h.sl
  simp [World.cell?, h', enSs, hi]
theorem Rw.fG {w : World} {G F : Nat} {A : List En} (h : Rw w G F A) (i : Nat) : w.frozen? ⟨G, i, none⟩ = false := by
  have h' := h.tg
  simp [World.frozen?, h']
theorem Rw.fF {w : World} {G F : Nat} {A : List En} (h : Rw w G F A) (i : Nat) : w.frozen? ⟨F, i, none⟩ = false := by
  have h' := h.sl
  simp [World.frozen?, h']

def rmB (A : List En) : Bool := A.any frE
theorem rmB_ff (A : List En) : (ff A).isSome = rmB A := by
  induction A with
  | nil => rfl
  | cons x l ih =>
    unfold ff rmB
    cases h : frE x
    · simp only [Bool.false_eq_true, if_false, Option.isSome_map, List.any_cons, h, Bool.false_or]; exact ih
    · simp [h]
theorem rmB_take (A : List En) (k : Nat) (hk : k < A.length) : rmB (A.take (k + 1)) = (rmB (A.take k) || frE (A.getD k (0, 0))) := by
  unfold rmB
  rw [List.take_succ_eq_append_getElem hk, List.any_append]
  have e : A.getD k (0, 0) = A[k] := by simp [List.getD, hk]
  rw [e]
  simp

set_option maxHeartbeats 4000000 in
theorem same_any {P R G F : Nat} {t : Tb} {w : World} (h : IsTab w P R t) (hr : Rw w G F t.A) {n : Nat} (hn : t.A.length = n) :
    Calls Try.prog 11 #[.pointer (some ⟨P, 0, none⟩), .agg (cs t.s t.a t.c t.d t.g t.k), .slice (some ⟨G, 0, none⟩) n n, .slice (some ⟨F, 0, none⟩) n n] w fun e w' => e = .returned (.bool true) ∧ Below w.heap.size w w' := by
  have bel := alloc_below w (.cells #[.int .i64 t.s, .int .i64 t.a, .int .i64 t.c, .int .i64 t.d, .int .i64 t.g, .int .i64 t.k] 23)
  have hh := cfg_new w t.s t.a t.c t.d t.g t.k
  have hd : t.d = (n : Int) := by have := h.ok.len; omega
  have hn16 : n ≤ 16 := by have := h.ok.d16; omega
  have he : ∀ i, i < n → EnOk (t.A.getD i (0, 0)) := fun i hi => h.ok.at (by omega)
  have hA : ∀ wr, Below w.heap.size w wr → IsTab wr P R t := fun wr b => h.below b
  have hB : ∀ wr, Below w.heap.size w wr → Rw wr G F t.A := fun wr b => hr.below b
  rw [hd] at hh bel
  clear h hr
  go_enter Try.func11, Try.ntmps11
  rw [hd]
  go_upto_region 1 with fail
  generalize w.alloc (.cells #[.int .i64 t.s, .int .i64 t.a, .int .i64 t.c, .int .i64 (n : Int), .int .i64 t.g, .int .i64 t.k] 23) = w1 at *
  go_wp2
  go_loopw [9, 10, 11] (fun v9 v10 v11 wr => ∃ k : Nat, k ≤ n ∧ v9 = .int .i64 (heldE (t.A.take k) : Nat) ∧ v10 = .bool (rmB (t.A.take k)) ∧ v11 = .int .i64 k ∧ IsCfg wr w.heap.size t.s t.a t.c n t.g t.k ∧ Below w.heap.size w wr) (fun _ _ v11 _ => n - (intOf v11).toNat)
  case atStart => exact ⟨0, Nat.zero_le _, rfl, rfl, rfl, hh, bel⟩
  case round =>
    clear hh bel
    obtain ⟨k, hk, rfl, rfl, rfl, hh, bel⟩ := hrel
    have l3 := hh.cells.2.2.2.1
    have hl := held_le t.A k
    by_cases hlt : k < n
    · have ek := he k hlt
      have hlt' : k < t.A.length := by omega
      have hs := held_take t.A k hlt'
      have hm := rmB_take t.A k hlt'
      have ce := fun wr => Tg.rentry_any (t.A.getD k (0, 0)).1 (t.A.getD k (0, 0)).2 (by have := ek.t; omega) wr
      rw [ek.top.1, ek.top.2] at ce
      have cw := fun wr b => word_in (hA wr b) k hlt'
      have q1 := fun wr b => (hB wr b).t hlt'
      have q2 := fun wr b => (hB wr b).s hlt'
      have hen := ek.t
      have hes := ek.s
      have hfe : frE (t.A.getD k (0, 0)) = (decide ((t.A.getD k (0, 0)).2 = -1) && decide ((t.A.getD k (0, 0)).1 < 4294967295)) := rfl
      rw [hfe] at hm
      clear hfe ek he
      generalize enW (t.A.getD k (0, 0)) = W at *
      generalize (t.A.getD k (0, 0)).1 = tg at *
      generalize (t.A.getD k (0, 0)).2 = sl at *
      have HS : Hid (heldE (t.A.take (k + 1)) = heldE (t.A.take k) + if sl ≠ -1 then 1 else 0) := hs
      have HM : Hid (rmB (t.A.take (k + 1)) = (rmB (t.A.take k) || (decide (sl = -1) && decide (tg < 4294967295)))) := hm
      clear hs hm
      generalize heldE (t.A.take k) = hk0 at *
      generalize rmB (t.A.take k) = rm0 at *
      go_upto_region 6 with fail
      clear l3
      replace hh := hh.below (Below.refl _ _).drew
      replace bel := seq_below bel (Below.refl _ _).drew
      have m1 := q1 _ bel
      have m2 := q2 _ bel
      go_region_held (fun wr' => wr'.cell? ⟨G, k, none⟩ = some (.int .u64 (tg : Nat)) ∧ wr'.cell? ⟨F, k, none⟩ = some (.int .i64 sl)) (exact ⟨m1, m2⟩) (first
        | (go_at_call 23; with_reducible refine (ce _).mono ?_; rintro r w6 ⟨rfl, rfl⟩))
      have cw1 := cw _ bel
      rename_i hHeld
      clear hHeld cw q1 q2 ce hA hB
      generalize wr.drew = w2 at *
      by_cases hsl : sl = -1
      · subst hsl
        by_cases htg : tg < 4294967295
        · have hti : (tg : Int) < 4294967295 := by omega
          have hn1 : decide (tg < 4294967295) = true := decide_eq_true htg
          cases rm0
          all_goals
            go_wp2_with (go_at_call 12; refine cw1.mono ?_; rintro r w7 ⟨rfl, rfl⟩)
            go_roundw
            case rel => exact ⟨k + 1, by omega, by rw [HS.out]; rfl, by rw [HM.out, hn1]; rfl, by go_num, hh, bel⟩
            case measure => simp [intOf]; omega
        · have hti : ¬ (tg : Int) < 4294967295 := by omega
          have hti2 : (4294967295 : Int) ≤ (tg : Int) := by omega
          have HM1 : Hid (rmB (t.A.take (k + 1)) = rm0) := by
            show rmB (t.A.take (k + 1)) = rm0
            rw [HM.out, decide_eq_false htg, Bool.and_false, Bool.or_false]
          clear HM
          cases rm0
          all_goals
            go_wp2_with (go_at_call 12; refine cw1.mono ?_; rintro r w7 ⟨rfl, rfl⟩)
            go_roundw
            case rel => exact ⟨k + 1, by omega, by rw [HS.out]; rfl, by first | (rw [HM1.out]; done) | (rw [HM1.out]; simp; omega) | (rw [HM1.out]; simp [hti]), by go_num, hh, bel⟩
            case measure => simp [intOf]; omega
      · have hs0 : 0 ≤ sl := by omega
        have hs1 : ¬ sl < 0 := by omega
        have hn1 : decide (sl = -1) = false := decide_eq_false hsl
        have HS1 : Hid (heldE (t.A.take (k + 1)) = hk0 + 1) := by
          show heldE (t.A.take (k + 1)) = _
          rw [HS.out, if_pos hsl]
        clear hsl hes HS
        cases rm0
        all_goals
          go_wp2_with (go_at_call 12; refine cw1.mono ?_; rintro r w7 ⟨rfl, rfl⟩)
          go_roundw
          case rel => exact ⟨k + 1, by omega, by rw [HS1.out]; go_num, by rw [HM.out, hn1]; simp, by go_num, hh, bel⟩
          case measure => simp [intOf]; omega
    · obtain rfl : k = n := by omega
      have ta := hA _ bel
      have e1 : t.A.take k = t.A := List.take_of_length_le (by omega)
      rw [e1] at hl ⊢
      have c1 := held_any ta
      have c2 : ∀ wr', IsTab wr' P R t → Calls Try.prog 14 #[.pointer (some ⟨P, 0, none⟩)] wr' fun e w' => e = .returned (.bool (rmB t.A)) ∧ Below wr'.heap.size wr' w' := fun wr' ht => by
        have c := room_any ht
        rw [rmB_ff] at c
        exact c
      have c3 : ∀ wr', IsTab wr' P R t → Calls Try.prog 12 #[.pointer (some ⟨P, 0, none⟩), .int .i64 (-1)] wr' fun e w' => e = .returned (.int .u64 0) ∧ wr' = w' := fun wr' ht => word_out ht (-1) (by simp [be])
      have c4 : ∀ wr', IsTab wr' P R t → Calls Try.prog 12 #[.pointer (some ⟨P, 0, none⟩), .int .i64 (k : Int)] wr' fun e w' => e = .returned (.int .u64 0) ∧ wr' = w' := fun wr' ht => word_out ht k (by rw [hn]; simp [be])
      have hk1 : ¬ (k : Int) = -1 := by omega
      clear hA hB he e1 hlt hk
      generalize heldE t.A = H at *
      generalize rmB t.A = rm at *
      cases rm
      all_goals
        go_wp2_with (first
          | (go_at_call 13; refine c1.mono ?_; rintro r w7 ⟨rfl, b⟩; replace ta := ta.below b; replace bel := seq_below bel b; replace hh := hh.below b; clear l3; have l3 := hh.cells.2.2.2.1)
          | (go_at_call 14; refine (c2 _ ta).mono ?_; rintro r w7 ⟨rfl, b⟩; replace ta := ta.below b; replace bel := seq_below bel b; replace hh := hh.below b; clear l3; have l3 := hh.cells.2.2.2.1)
          | (go_at_call 12; with_reducible refine (c3 _ ta).mono ?_; rintro r w7 ⟨rfl, rfl⟩)
          | (go_at_call 12; with_reducible refine (c4 _ ta).mono ?_; rintro r w7 ⟨rfl, rfl⟩))
        go_ret
        exact ⟨rfl, bel⟩
end Go.Proofs.Ytnegdabcjnhpdaa
