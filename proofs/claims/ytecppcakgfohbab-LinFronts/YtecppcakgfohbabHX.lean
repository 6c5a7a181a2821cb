/- slices.symMergeCmpFunc, stableCmpFunc, SortStableFunc. -/
import Derived.Test.YtecppcakgfohbabHT
import Derived.Test.YtecppcakgfohbabHWa
import Derived.Test.YtecppcakgfohbabHWb
import Derived.Test.YtecppcakgfohbabHWc
import Derived.Test.YtecppcakgfohbabHX0
namespace Go.Proofs.Ytecppcakgfohbab
open Go.RowKit Go.Sort

theorem sym_all {p q : Value} {cf : Nat → Nat → Int} (hS : SWO (ltN cf)) {w0 : World} {B off n : Nat} (hC : CmpW p q cf w0 B off n) (hn : n < 1000000000) (cap : Nat) : ∀ (k : Nat) (a m b : Nat) (d : Array Nat) (w : World), b - a ≤ k → SR w0 B off n d w → a < m → m < b → b ≤ n → Srt (ltN cf) a m d → Srt (ltN cf) m b d → Crs a m b d →
    Calls Try.prog 77 #[.slice (some ⟨B, off, none⟩) n cap, .int .i64 (a : Int), .int .i64 (m : Int), .int .i64 (b : Int), .func (.func 47) #[] #[p, q]] w fun e w' => e = .returned (.tuple #[]) ∧ ∃ dn, Mgd (ltN cf) a b d dn ∧ SR w0 B off n dn w'
  | 0, a, m, b, d, w, hk, _, h1, h2, _, _, _, _ => by omega
  | k + 1, a, m, b, d, w, hk, S, h1, h2, h3, H1, H2, H3 => by
    by_cases c1 : m = a + 1
    · exact symA hS hC S h1 h2 h3 hn cap H1 H2 H3 c1
    · by_cases c2 : b = m + 1
      · exact symB hS hC S h1 h2 h3 hn cap H1 H2 H3 c1 c2
      · exact symC hS hC S h1 h2 h3 hn cap H1 H2 H3 c1 c2 fun a' m' b' d' w' hl => sym_all hS hC hn cap k a' m' b' d' w' (by omega)
theorem sym_any {p q : Value} {cf : Nat → Nat → Int} (hS : SWO (ltN cf)) {w0 w : World} {B off n : Nat} (hC : CmpW p q cf w0 B off n) {d : Array Nat} (S : SR w0 B off n d w) {a m b : Nat} (h1 : a < m) (h2 : m < b) (h3 : b ≤ n) (hn : n < 1000000000) (cap : Nat) (H1 : Srt (ltN cf) a m d) (H2 : Srt (ltN cf) m b d) (H3 : Crs a m b d) :
    Calls Try.prog 77 #[.slice (some ⟨B, off, none⟩) n cap, .int .i64 (a : Int), .int .i64 (m : Int), .int .i64 (b : Int), .func (.func 47) #[] #[p, q]] w fun e w' => e = .returned (.tuple #[]) ∧ ∃ dn, Mgd (ltN cf) a b d dn ∧ SR w0 B off n dn w' :=
  sym_all hS hC hn cap (b - a) a m b d w (Nat.le_refl _) S h1 h2 h3 H1 H2 H3
theorem ins_any2 {p q : Value} {cf : Nat → Nat → Int} (hS : SWO (ltN cf)) {w0 w : World} {B off n : Nat} (hC : CmpW p q cf w0 B off n) {d : Array Nat} (S : SR w0 B off n d w) {a b : Nat} (hab : a ≤ b) (hb : b ≤ n) (hn : n < 1000000000) (cap : Nat) (asc : ∀ i j, a ≤ i → i < j → j < b → d[i]! < d[j]!) :
    Calls Try.prog 76 #[.slice (some ⟨B, off, none⟩) n cap, .int .i64 (a : Int), .int .i64 (b : Int), .func (.func 47) #[] #[p, q]] w fun e w' => e = .returned (.tuple #[]) ∧ ∃ dn, (PermIn a b d dn ∧ Srt (ltN cf) a b dn) ∧ SR w0 B off n dn w' :=
  (ins_any hC S hab hb hn cap).mono fun _ _ ⟨he, S2⟩ => ⟨he, _, ins_spec hS hab (by rw [S.len]; exact hb) asc, S2⟩

set_option maxRecDepth 100000 in
set_option maxHeartbeats 8000000 in
theorem stable_any {p q : Value} {cf : Nat → Nat → Int} (hS : SWO (ltN cf)) {w0 w : World} {B off n : Nat} (hC : CmpW p q cf w0 B off n) {d : Array Nat} (S0 : SR w0 B off n d w) (asc : ∀ i j, i < j → j < n → d[i]! < d[j]!) (hn : n < 400000000) (cap : Nat) :
    Calls Try.prog 64 #[.slice (some ⟨B, off, none⟩) n cap, .int .i64 (n : Int), .func (.func 47) #[] #[p, q]] w fun e w' => e = .returned (.tuple #[]) ∧ ∃ dn, (PermIn 0 n d dn ∧ Srt (ltN cf) 0 n dn) ∧ SR w0 B off n dn w' := by
  have hsd := hid1 S0.len
  replace S0 := hid1 S0
  have HC := hid1 hC
  have hS := hid1 hS
  have hA := hid1 asc
  clear hC asc
  go_enter Try.func64, Try.ntmps64
  go_wp2
  go_loopg [7, 8] (n + 40) (fun g1 va vb wr => ∃ (k a b : Nat) (dk : Array Nat), va = .int .i64 a ∧ vb = .int .i64 b ∧ b = a + 20 ∧ a ≤ n ∧ n + 40 - a ≤ g1 ∧ Hid (SR w0 B off n dk wr) ∧ Hid (Ph1 (ltN cf) n k a d dk))
  case atStart => exact ⟨0, 0, 20, d, rfl, rfl, rfl, Nat.zero_le _, by omega, S0, hid1 (Ph1.start n d)⟩
  case round =>
    clear S0
    obtain ⟨k, a, b, dk, rfl, rfl, hab, han, hg1, S1, I⟩ := hrel
    replace hab := hid1 hab
    by_cases hlt : b ≤ n
    · have hltz : (b : Int) ≤ (n : Int) := by omega
      have c1 := hid1 (ins_any2 hS.out HC.out S1.out (a := a) (b := b) (by have := hab.out; omega) hlt (by omega) cap (fun i j h1 h2 h3 => I.out.asc hA.out i j h1 h2 (by omega)))
      obtain ⟨b2, hb2⟩ : ∃ b2, b2 = b + 20 := ⟨_, rfl⟩
      have rb : IntKind.i64.wrap ((b : Int) + 20) = (b2 : Int) := by rw [IntKind.wrap_i64]; omega
      have rb2 : (b : Int) + 20 = (b2 : Int) := by omega
      replace hb2 := hid1 hb2
      go_wp2_with (go_at_call 76; refine c1.out.mono ?_; rintro e w' ⟨rfl, dn, ⟨P1, P2⟩, S2⟩)
      go_roundg (n + 40 - b)
      case measure => have := hab.out; omega
      case rel =>
        have e := hab.out
        exact ⟨k + 1, b, b2, dn, rfl, rfl, hb2.out, hlt, Nat.le_refl _, hid1 S2, hid1 (by rw [e]; exact I.out.step (by rw [hsd.out]; exact Nat.le_refl _) hA.out (by omega) (by rw [← e]; exact P1) (by rw [← e]; exact P2))⟩
    · have hltz : ¬ (b : Int) ≤ (n : Int) := by omega
      have c1 := hid1 (ins_any2 hS.out HC.out S1.out (a := a) (b := n) han (Nat.le_refl _) (by omega) cap (fun i j h1 h2 h3 => I.out.asc hA.out i j h1 h2 h3))
      go_wp2_with (go_at_call 76; refine c1.out.mono ?_; rintro e w' ⟨rfl, d1, ⟨P1, P2⟩, S2⟩)
      have I2 := hid1 (I.out.last (by rw [hsd.out]; exact Nat.le_refl _) (by have := hab.out; omega) P1 P2)
      replace S2 := hid1 S2
      clear P1 P2 c1 S1 I hab han hg1
      go_loopg [6, 7, 8, 9] (n + 40) (fun g2 vs va vb vm wr => ∃ (s : Nat) (dk : Array Nat), vs = .int .i64 s ∧ 20 ≤ s ∧ s ≤ n + n + 40 ∧ n + n + 40 - s ≤ g2 + n ∧ Hid (SR w0 B off n dk wr) ∧ Hid (PermIn 0 n d dk ∧ Blk (ltN cf) s n dk))
      case atStart => exact ⟨20, d1, rfl, by omega, by omega, by omega, S2, I2⟩
      case round =>
        clear S2 I2
        obtain ⟨s, d2, rfl, hs1, hs2, hg2, S1, I⟩ := hrel
        by_cases hlt2 : s < n
        · have hltz2 : (s : Int) < (n : Int) := by omega
          obtain ⟨s2, hs3⟩ : ∃ x, x = 2 * s := ⟨_, rfl⟩
          have rs : IntKind.i64.wrap (2 * (s : Int)) = (s2 : Int) := by rw [IntKind.wrap_i64]; omega
          have rs2 : 2 * (s : Int) = (s2 : Int) := by omega
          have rs3 : IntKind.i64.wrap ((s : Int) * 2) = (s2 : Int) := by rw [IntKind.wrap_i64]; omega
          have rs4 : (s : Int) * 2 = (s2 : Int) := by omega
          have ls2 : s2 < 1000000000 := by omega
          replace hs3 := hid1 hs3
          go_wp2
          go_loopg [7, 8] (n + n) (fun g3 va vb wr => ∃ (k a b : Nat) (dk : Array Nat), va = .int .i64 a ∧ vb = .int .i64 b ∧ b = a + s2 ∧ a ≤ n ∧ n + n - a ≤ g3 ∧ Hid (SR w0 B off n dk wr) ∧ Hid (Ph2 (ltN cf) s n k a d dk))
          case atStart => exact ⟨0, 0, s2, d2, rfl, by first | rfl | (rw [hs3.out]; rfl) | go_num, by omega, by omega, by omega, S1, hid1 (Ph2.start I.out.1 I.out.2)⟩
          case round =>
            clear S1 I
            obtain ⟨k, a, b, dk, rfl, rfl, hab, han, hg3, S1, I⟩ := hrel
            replace hab := hid1 hab
            obtain ⟨m, hm⟩ : ∃ m, m = a + s := ⟨_, rfl⟩
            have rm : IntKind.i64.wrap ((a : Int) + (s : Int)) = (m : Int) := by rw [IntKind.wrap_i64]; omega
            have rm2 : (a : Int) + (s : Int) = (m : Int) := by omega
            replace hm := hid1 hm
            by_cases hlt3 : b ≤ n
            · have hltz3 : (b : Int) ≤ (n : Int) := by omega
              have pp := I.out.parts hlt3 (by have := hab.out; have := hs3.out; omega) (by have := hab.out; have := hs3.out; omega)
              rw [← hm.out] at pp
              have c1 := hid1 (sym_any hS.out HC.out S1.out (a := a) (m := m) (b := b) (by have := hm.out; omega) (by have := hm.out; have := hab.out; have := hs3.out; omega) hlt3 (by omega) cap pp.1 pp.2.1 pp.2.2)
              obtain ⟨b2, hb2⟩ : ∃ b2, b2 = b + s2 := ⟨_, rfl⟩
              have rb : IntKind.i64.wrap ((b : Int) + (s2 : Int)) = (b2 : Int) := by rw [IntKind.wrap_i64]; omega
              have rb2 : (b : Int) + (s2 : Int) = (b2 : Int) := by omega
              replace hb2 := hid1 hb2
              clear pp
              go_wp2_with (go_at_call 77; refine c1.out.mono ?_; rintro e w' ⟨rfl, dn, G, S2⟩)
              go_roundg (n + n - b)
              case measure => have := hab.out; have := hs3.out; omega
              case rel =>
                have e : b = a + 2 * s := by rw [hab.out, hs3.out]
                exact ⟨k + 1, b, b2, dn, rfl, rfl, hb2.out, hlt3, Nat.le_refl _, hid1 S2, hid1 (by rw [e]; exact I.out.step (by rw [hsd.out]; exact Nat.le_refl _) (by omega) (by rw [← e]; exact G))⟩
            · have hltz3 : ¬ (b : Int) ≤ (n : Int) := by omega
              by_cases hmn : m < n
              · have hmz : (m : Int) < (n : Int) := by omega
                have pp := I.out.parts (Nat.le_refl n) (by have := hm.out; omega) (by have := hab.out; have := hs3.out; omega)
                rw [← hm.out] at pp
                have c1 := hid1 (sym_any hS.out HC.out S1.out (a := a) (m := m) (b := n) (by have := hm.out; omega) hmn (Nat.le_refl _) (by omega) cap pp.1 pp.2.1 pp.2.2)
                clear pp
                go_wp2_with (go_at_call 77; refine c1.out.mono ?_; rintro e w' ⟨rfl, dn, G, S2⟩)
                have I3 := hid1 (I.out.last (by rw [hsd.out]; exact Nat.le_refl _) (by have := hab.out; have := hs3.out; omega) G)
                go_roundg (n + 40 - s2)
                case measure => have := hs3.out; omega
                case rel =>
                  exact ⟨s2, dn, by first | rfl | (rw [hs3.out]; rfl) | go_num, by have := hs3.out; omega, by have := hs3.out; omega, by have := hs3.out; omega, hid1 S2, hid1 (by rw [hs3.out]; exact I3.out)⟩
              · have hmz : ¬ (m : Int) < (n : Int) := by omega
                have I3 := hid1 (I.out.last (by rw [hsd.out]; exact Nat.le_refl _) (by have := hab.out; have := hs3.out; omega) (I.out.flat (by have := hm.out; omega)))
                go_wp2
                go_roundg (n + 40 - s2)
                case measure => have := hs3.out; omega
                case rel =>
                  exact ⟨s2, dk, by first | rfl | (rw [hs3.out]; rfl) | go_num, by have := hs3.out; omega, by have := hs3.out; omega, by have := hs3.out; omega, S1, hid1 (by rw [hs3.out]; exact I3.out)⟩
        · have hltz2 : ¬ (s : Int) < (n : Int) := by omega
          go_wp2
          go_end0
          exact ⟨rfl, d2, ⟨I.out.1, I.out.2.all (by omega)⟩, S1.out⟩

set_option maxRecDepth 100000 in
set_option maxHeartbeats 8000000 in
theorem sortst_any {p q : Value} {cf : Nat → Nat → Int} (hS : SWO (ltN cf)) {w0 w : World} {B off n : Nat} (hC : CmpW p q cf w0 B off n) {d : Array Nat} (S0 : SR w0 B off n d w) (asc : ∀ i j, i < j → j < n → d[i]! < d[j]!) (hn : n < 400000000) (cap : Nat) :
    Calls Try.prog 46 #[.slice (some ⟨B, off, none⟩) n cap, .func (.func 47) #[] #[p, q]] w fun e w' => e = .returned (.tuple #[]) ∧ ∃ dn, (PermIn 0 n d dn ∧ Srt (ltN cf) 0 n dn) ∧ SR w0 B off n dn w' := by
  have c1 := hid1 (stable_any hS hC S0 asc hn cap)
  clear hC S0 asc hS
  go_enter Try.func46, Try.ntmps46
  go_wp2_with (go_at_call 64; refine c1.out.mono ?_; rintro e w' ⟨rfl, dn, H, S2⟩)
  go_end0
  exact ⟨rfl, dn, H, S2⟩
end Go.Proofs.Ytecppcakgfohbab
