/- Events; cmp.Compare, cmp.Or. -/
import Derived.Test.YtecppcakgfohbabM0
import Derived.Deep.LoopGhost
namespace Go.Proofs.Ytecppcakgfohbab
open Go.RowKit

structure Ev where
  cl : Int
  op : Int
  bg : Int
  pt : Int
  en : Int
  bh : Bool
  kd : Int
  nn : Int
  hh : Nat
  hx : Nat
  hy : Nat
  er : Int
  ah : Nat
  ay : Bool
  deriving Inhabited
def Ev.row (e : Ev) : Array Value := #[.int .i64 e.cl, .int .i64 e.op, .int .i64 e.bg, .int .i64 e.pt, .int .i64 e.en, .bool e.bh, .int .i64 e.kd, .int .i64 e.nn, .int .u64 (e.hh : Nat), .int .u64 (e.hx : Nat), .int .u64 (e.hy : Nat), .int .i64 e.er, .int .u64 (e.ah : Nat), .bool e.ay]
/-- Events that are read: a slice of them. -/
def RdEv (w : World) (ad : Option Addr) (E : List Ev) : Prop :=
  ∀ i e, E[i]? = some e → ∃ b off, ad = some ⟨b, off, none⟩ ∧ b < w.heap.size ∧ ∀ k, k < 14 → w.cell? ⟨b, off + i * 14 + k, none⟩ = e.row[k]?
theorem RdEv.below {w w' : World} {ad : Option Addr} {E : List Ev} (h : RdEv w ad E) (b : Below w.heap.size w w') : RdEv w' ad E := fun i e hi => by
  obtain ⟨g, off, h1, h2, h3⟩ := h i e hi
  exact ⟨g, off, h1, Nat.lt_of_lt_of_le h2 b.size, fun k hk => (b.cell (p := ⟨g, off + i * 14 + k, none⟩) h2).trans (h3 k hk)⟩

def cmpI (x y : Int) : Int := if x < y then -1 else if y < x then 1 else 0
set_option maxRecDepth 100000 in
theorem compare_any (x y : Int) (w : World) : Calls Try.prog 49 #[.int .i64 x, .int .i64 y] w fun e w' => e = .returned (.int .i64 (cmpI x y)) ∧ w' = w := by
  have n1 : ∀ (z : Int) (w : World), Calls Try.prog 65 #[.int .i64 z] w fun e w' => e = .returned (.bool false) ∧ w' = w := by
    intro z w
    go_enter Try.func65, Try.ntmps65
    go_wp2
    go_ret
    simp
  replace n1 := hid1 n1
  obtain ⟨r, hr⟩ : ∃ r, cmpI x y = r := ⟨_, rfl⟩
  rw [hr]
  by_cases h1 : x < y
  · obtain rfl : r = -1 := by rw [← hr]; unfold cmpI; rw [if_pos h1]
    clear hr
    go_enter Try.func49, Try.ntmps49
    go_wp2_with (go_at_call 65; refine (n1.out _ _).mono ?_; rintro e w' ⟨rfl, rfl⟩)
    go_ret
    exact ⟨rfl, rfl⟩
  · by_cases h2 : y < x
    · obtain rfl : r = 1 := by rw [← hr]; unfold cmpI; rw [if_neg h1, if_pos h2]
      clear hr
      go_enter Try.func49, Try.ntmps49
      go_wp2_with (go_at_call 65; refine (n1.out _ _).mono ?_; rintro e w' ⟨rfl, rfl⟩)
      go_ret
      exact ⟨rfl, rfl⟩
    · obtain rfl : r = 0 := by rw [← hr]; unfold cmpI; rw [if_neg h1, if_neg h2]
      clear hr
      go_enter Try.func49, Try.ntmps49
      go_wp2_with (go_at_call 65; refine (n1.out _ _).mono ?_; rintro e w' ⟨rfl, rfl⟩)
      go_ret
      exact ⟨rfl, rfl⟩
/-- The first one that isn't 0. -/
def orZ : List Int → Int
  | [] => 0
  | x :: l => if x = 0 then orZ l else x
set_option maxRecDepth 100000 in
theorem or_any {w : World} {g off cap : Nat} {Z : List Int} (hn : Z.length < 1000) (hc : ∀ i x, Z[i]? = some x → w.cell? ⟨g, off + i, none⟩ = some (.int .i64 x)) :
    Calls Try.prog 48 #[.slice (some ⟨g, off, none⟩) Z.length cap] w fun e w' => e = .returned (.int .i64 (orZ Z)) ∧ w' = w := by
  obtain ⟨n, hz⟩ : ∃ n, Z.length = n := ⟨_, rfl⟩
  rw [hz] at hn ⊢
  obtain ⟨r, hr⟩ : ∃ r, orZ Z = r := ⟨_, rfl⟩
  rw [hr]
  replace hr := hid1 hr
  replace hz := hid1 hz
  replace hc := hid1 hc
  go_enter Try.func48, Try.ntmps48
  go_wp2
  go_loopg [5, 8] n (fun g1 _ vi wr => ∃ (i : Nat), vi = .int .i64 i ∧ i ≤ n ∧ n - i ≤ g1 ∧ wr = w ∧ Hid (orZ (Z.drop i) = r))
  case atStart => exact ⟨0, by go_num, Nat.zero_le _, by omega, rfl, hid1 (by rw [List.drop_zero]; exact hr.out)⟩
  case round =>
    obtain ⟨i, rfl, hi, hg1, rfl, I⟩ := hrel
    by_cases hlt : i < n
    · have hltz : (i : Int) < (n : Int) := by omega
      obtain ⟨x, hx⟩ : ∃ x, Z[i]? = some x := ⟨_, List.getElem?_eq_getElem (by have := hz.out; omega)⟩
      have c1 := hc.out i x hx
      have hdr : Z.drop i = x :: Z.drop (i + 1) := by
        have h3 := (List.getElem?_eq_some_iff.1 hx)
        rw [List.drop_eq_getElem_cons h3.1, h3.2]
      replace hdr := hid1 hdr
      clear hx
      by_cases h0 : x = 0
      · subst h0
        go_wp2
        go_roundg (n - (i + 1))
        case measure => omega
        case rel => exact ⟨i + 1, by go_num, by omega, Nat.le_refl _, rfl, hid1 (by rw [← I.out, hdr.out]; rfl)⟩
      · have h0b : (x != 0) = true := by simpa using h0
        have er : x = r := by rw [← I.out, hdr.out]; unfold orZ; rw [if_neg h0]
        replace er := hid1 er
        go_wp2
        go_ret
        exact ⟨by rw [← er.out]; rfl, rfl⟩
    · have hltz : ¬ (i : Int) < (n : Int) := by omega
      go_wp2
      go_ret
      exact ⟨by rw [← I.out, List.drop_of_length_le (by have := hz.out; omega)]; rfl, rfl⟩
end Go.Proofs.Ytecppcakgfohbab
