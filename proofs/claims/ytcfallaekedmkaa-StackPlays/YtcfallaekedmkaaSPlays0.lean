/- The law of whatever is taken and laid, walked. -/
import Derived.Test.YtcfallaekedmkaaSWd
import Derived.Test.YtcfallaekedmkaaSOpen
namespace Go.Proofs.Ytcfallaekedmkaa
open Go.RowKit
open Mm (IsMem MS zeroMS)
set_option linter.unusedVariables false

theorem Try.info35 : (Try.prog.info? 35).map (fun i => (i.zero, i.size, i.bytes)) = some (some (.agg #[.slice none 0 0, .slice none 0 0, .pointer none, .pointer none, .int .i64 0]), 5, 72) := by kernel_rfl

def tk0 : Tk := ⟨.slice none 0 0, [], none, [], 0, .idle, 0⟩
def cur0 (n : Nat) : Array Value := madeCells #[.slice none 0 0, .slice none 0 0, .pointer none, .pointer none, .int .i64 0] (n * 5)
theorem cur0_get (n i k : Nat) (hi : i < n) (hk : k < 5) : (cur0 n)[i * 5 + k]? = (#[Value.slice none 0 0, .slice none 0 0, .pointer none, .pointer none, .int .i64 0] : Array Value)[k]? := by
  have h1 : i * 5 + k < n * 5 := by omega
  have h2 : (i * 5 + k) % 5 = k := by omega
  have key : ∀ p, p < n * 5 → (cur0 n)[p]? = some ((#[Value.slice none 0 0, .slice none 0 0, .pointer none, .pointer none, .int .i64 0] : Array Value)[p % 5]!) := fun p hp => by
    unfold cur0 madeCells
    rw [Array.getElem?_map, Array.getElem?_eq_getElem (by simpa using hp)]
    simp
  rw [key _ h1, h2]
  have : k = 0 ∨ k = 1 ∨ k = 2 ∨ k = 3 ∨ k = 4 := by omega
  rcases this with rfl | rfl | rfl | rfl | rfl <;> rfl
theorem made_row {w : World} {base L n : Nat} (h : w.ownsRow base 35 5 (.slice (some ⟨L, 0, none⟩) n n) n (cur0 n).toList) : IsRow w L (cur0 n) := by
  rcases h.2 with ⟨h0, _⟩ | ⟨g', c', cur, h1, h2, h3, h4, h5, h6, h7⟩
  · cases h0
  · simp only [Value.slice.injEq, Option.some.injEq, Addr.mk.injEq] at h1
    obtain ⟨⟨rfl, -⟩, -, rfl⟩ := h1
    have e : cur.toList.take (n * 5) = cur.toList := List.take_of_length_le (by simp [h6])
    rw [e] at h7
    have e3 : cur = cur0 n := Array.ext' h7
    show w.heap[L]? = _
    rw [h3, e3]

/-- The rows of work that came in. -/
def Rows3 (w : World) (ad : Option Addr) (Z : List (Option Addr × List Bool × Nat)) : Prop :=
  ∀ i (hi : i < Z.length), ∃ b off, ad = some ⟨b, off, none⟩ ∧ b < w.heap.size ∧ w.cell? ⟨b, off + i, none⟩ = some (.slice Z[i].1 Z[i].2.1.length Z[i].2.2) ∧ Z[i].2.1.length ≤ Z[i].2.2 ∧ Wk w w.heap.size Z[i].1 Z[i].2.1

theorem cnt_rep (s n : Nat) : cnt s (List.replicate n tk0) = 0 := by
  induction n with
  | zero => rfl
  | succ n ih => rw [List.replicate_succ]; show tk0.hold.count s + _ = 0; rw [ih]; rfl
theorem count_range (s S : Nat) : (List.range' 0 S).count s = if s < S then 1 else 0 := by
  have hn : (List.range' 0 S).Nodup := List.nodup_range'
  by_cases h : s < S
  · rw [if_pos h]
    have h1 := (List.nodup_iff_count.1 hn) s
    have h2 : 0 < (List.range' 0 S).count s := List.count_pos_iff.2 (by rw [List.mem_range'_1]; omega)
    omega
  · rw [if_neg h]
    exact List.count_eq_zero.2 (by rw [List.mem_range'_1]; omega)

theorem wd_new {w wr : World} {K : Cf} (hK : K.Ok) {M G L n : Nat} (hm : IsMem wr M G (memK0 K)) (hr : IsRow wr L (cur0 n)) (hc : IsCfg wr w.heap.size K.S K.a K.C K.D K.g K.k) (hb : Below w.heap.size w wr) (hM : w.heap.size + 1 ≤ M) (hG : w.heap.size + 1 ≤ G) (hL : w.heap.size + 1 ≤ L ∧ L ≠ M ∧ L ≠ G) :
    Wd w wr K M G L (memK0 K) 0 (List.range' 0 K.S) (cur0 n) (List.replicate n tk0) := by
  refine ⟨hm, top_new hK, hr, by simp [cur0, madeCells], ?_, ?_, ?_, ?_, ?_, ?_, hc, hb, hM, hG, hL⟩
  · intro i hi
    simp only [List.length_replicate] at hi
    rw [List.getElem_replicate]
    exact ⟨cur0_get n i 0 hi (by omega), cur0_get n i 1 hi (by omega), cur0_get n i 2 hi (by omega), cur0_get n i 3 hi (by omega), cur0_get n i 4 hi (by omega), IsI.nil _, (fun i hi => by simp [tk0] at hi), Nat.le_refl _, trivial⟩
  · intro i hi; rw [List.getElem_replicate]; trivial
  · intro i hi b hb; rw [List.getElem_replicate] at hb; simp [tk0, Tk.own, Value.ownBlock, Mc.blk] at hb
  · intro i hi; rw [List.getElem_replicate]; simp [tk0, Tk.own, Value.ownBlock, Mc.blk]
  · intro i j hi hj _ b hb; rw [List.getElem_replicate] at hb; simp [tk0, Tk.own, Value.ownBlock, Mc.blk] at hb
  · intro s; rw [cnt_rep, count_range]; omega

/-- A taker's work is laid. -/
theorem Wd.work {w wr : World} {K : Cf} {M G L : Nat} {m : MS} {tag : Nat} {F : List Nat} {cur : Array Value} {ts : List Tk} (h : Wd w wr K M G L m tag F cur ts) (ht : 0 ≤ m.t) {j : Nat} (hj : j < ts.length) (hid : (ts[j]).mc = .idle) (wa : Option Addr) (wk : List Bool) (wc : Nat) (hwk : Wk wr w.heap.size wa wk) (hwc : wk.length ≤ wc) :
    Wd w (wr.setCell ⟨L, j * 5 + 1, none⟩ (.slice wa wk.length wc)) K M G L m tag F (cur.setIfInBounds (j * 5 + 1) (.slice wa wk.length wc)) (ts.set j ⟨(ts[j]).hv, (ts[j]).has, wa, wk, wc, .idle, (ts[j]).la⟩) := by
  have hc : Chg [L] wr (wr.setCell ⟨L, j * 5 + 1, none⟩ (.slice wa wk.length wc)) := (Chg.refl [L] wr).setCell (by simp) _
  have tk := h.tk j hj
  have hL := h.hL
  refine h.step hj ⟨mem_set h.mem hL.2.1 hL.2.2 _, h.top, ⟨ht, by omega⟩, by omega, h.row.set _ _, by simp, fun i hi => set_ne (by omega), ⟨(set_ne (by omega)).trans tk.c0, set_eq tk.c1, (set_ne (by omega)).trans (by rw [tk.c2, hid]), (set_ne (by omega)).trans (by rw [tk.c3, hid]), (set_ne (by omega)).trans tk.c4, tk.has.chg hc (fun r hr => by have := h.far j hj r (own_hv hr); simp; omega), hwk.chg hc (by simp; omega) h.bel.size, hwc, trivial⟩, trivial, .inl ⟨rfl, rfl, rfl⟩, ?_, ?_, ?_, hc.mono (fun i hi => .inl (by simp at hi; simp [hi]))⟩
  · show (F ++ ((ts[j]).has ++ [])).Perm (F ++ ((ts[j]).has ++ (ts[j]).mc.lay))
    rw [hid]; exact List.Perm.refl _
  · have := h.nd j hj
    show ((ts[j]).hv.ownBlock.toList ++ []).Nodup
    unfold Tk.own at this
    rw [hid] at this
    exact this
  · intro b hb
    left
    unfold Tk.own
    rw [hid]
    exact hb


theorem Wd.ask' {w wr : World} {K : Cf} (hK : K.Ok) {M G L : Nat} {m : MS} {tag : Nat} {F : List Nat} {cur : Array Value} {ts : List Tk} (h : Wd w wr K M G L m tag F cur ts) {i : Nat} (hi : i < ts.length) : (ts[i]).has.length ≤ 65536 := by
  have hn : (ts[i]).has.Nodup := List.nodup_iff_count.2 fun s => by
    have h1 := cnt_one s ts i hi
    have h2 := h.all s
    have h3 : (ts[i]).hold.count s = (ts[i]).has.count s + (ts[i]).mc.lay.count s := by simp [Tk.hold, List.count_append]
    split at h2 <;> omega
  have := nodup_len K.S _ hn (fun x hx => (h.had hi (by simp [Tk.hold, hx])).2)
  have := hK.s64
  omega

theorem cnt_le (s : Nat) : ∀ (ts : List Tk) (j : Nat), cnt s (ts.take j) ≤ cnt s ts
  | [], _ => by simp
  | t :: ts, 0 => by simp [cnt]
  | t :: ts, j + 1 => by
    have := cnt_le s ts j
    simp [cnt]
    omega

/-- What the count reads of a taker. -/
theorem Wd.look {w wr : World} {K : Cf} (hK : K.Ok) {M G L : Nat} {m : MS} {tag : Nat} {F : List Nat} {cur : Array Value} {ts : List Tk} (h : Wd w wr K M G L m tag F cur ts) {i : Nat} (hi : i < ts.length) (x : Nat) (N : Nat) (hN : Hid (N = F.count x + cnt x (ts.take i))) :
    ∃ (hv : Value) (pa : Option Addr) (la : Int) (bh : Bool), wr.cell? ⟨L, i * 5, none⟩ = some hv ∧ wr.cell? ⟨L, i * 5 + 3, none⟩ = some (.pointer pa) ∧ wr.cell? ⟨L, i * 5 + 4, none⟩ = some (.int .i64 la) ∧
      Calls Try.prog 15 #[hv, .int .i64 (x : Nat)] wr (fun e w' => e = .returned (.bool bh) ∧ wr = w') ∧
      ((bh = true ∧ Hid (N + 1 = F.count x + cnt x (ts.take (i + 1)))) ∨ (bh = false ∧ pa = none ∧ Hid (N = F.count x + cnt x (ts.take (i + 1)))) ∨
       (bh = false ∧ ∃ P, pa = some ⟨P, 0, none⟩ ∧ la = (x : Nat) ∧ Hid (N + 1 = F.count x + cnt x (ts.take (i + 1)))) ∨
       (bh = false ∧ ∃ P, pa = some ⟨P, 0, none⟩ ∧ la ≠ (x : Nat) ∧ Hid (N = F.count x + cnt x (ts.take (i + 1))))) := by
  have hN := hN.out
  have tk := h.tk i hi
  have inv := h.inv i hi
  have hlen := (h.ask' hK hi)
  have hc := has_any tk.has hlen x
  refine ⟨_, _, _, _, h.row.cell tk.c0, h.row.cell tk.c3, h.row.cell tk.c4, hc, ?_⟩
  have hct := cnt_take x ts i hi
  have h1 := cnt_one x ts i hi
  have h2 := h.all x
  have hh : (ts[i]).hold.count x = (ts[i]).has.count x + (ts[i]).mc.lay.count x := by simp [Tk.hold, List.count_append]
  have h3 : (ts[i]).hold.count x ≤ 1 := by split at h2 <;> omega
  by_cases hm : x ∈ (ts[i]).has
  · left
    have := List.count_pos_iff.2 hm
    exact ⟨by simpa using hm, by unfold Hid; omega⟩
  · right
    have hz := List.count_eq_zero.2 hm
    have hf : decide (x ∈ (ts[i]).has) = false := by simpa using hm
    cases hmc : (ts[i]).mc with
    | idle =>
      left
      rw [hmc] at hh
      simp only [Mc.lay, List.count_nil] at hh
      exact ⟨hf, rfl, by unfold Hid; omega⟩
    | pop P p =>
      left
      rw [hmc] at hh
      simp only [Mc.lay, List.count_nil] at hh
      exact ⟨hf, rfl, by unfold Hid; omega⟩
    | push P q =>
      right
      rw [hmc] at hh inv
      simp only [Mc.lay] at hh
      have hla := inv.2.2
      by_cases e : q.sl = x
      · left
        rw [e] at hh
        simp only [List.count_singleton_self] at hh
        exact ⟨hf, P, rfl, by rw [hla, e], by unfold Hid; omega⟩
      · right
        rw [List.count_singleton, if_neg (by simpa using e)] at hh
        exact ⟨hf, P, rfl, by rw [hla]; omega, by unfold Hid; omega⟩

theorem Wd.cells {w wr : World} {K : Cf} {M G L : Nat} {m : MS} {tag : Nat} {F : List Nat} {cur : Array Value} {ts : List Tk} (h : Wd w wr K M G L m tag F cur ts) : wr.cell? ⟨w.heap.size, 0, none⟩ = some (.int .i64 (K.S : Nat)) ∧ wr.cell? ⟨w.heap.size, 1, none⟩ = some (.int .i64 K.a) ∧ wr.cell? ⟨w.heap.size, 2, none⟩ = some (.int .i64 (K.C : Nat)) ∧ wr.cell? ⟨w.heap.size, 3, none⟩ = some (.int .i64 (K.D : Nat)) ∧ wr.cell? ⟨w.heap.size, 4, none⟩ = some (.int .i64 K.g) ∧ wr.cell? ⟨w.heap.size, 5, none⟩ = some (.int .i64 K.k) := h.cfg.cells
theorem Wd.F_le {w wr : World} {K : Cf} {M G L : Nat} {m : MS} {tag : Nat} {F : List Nat} {cur : Array Value} {ts : List Tk} (h : Wd w wr K M G L m tag F cur ts) (hS : K.S ≤ 12) : F.length ≤ 65536 := by
  have := h.top.len_le
  omega
end Go.Proofs.Ytcfallaekedmkaa
