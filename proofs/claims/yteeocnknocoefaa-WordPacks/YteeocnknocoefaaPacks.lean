/- word.Pack tells, of all values, the word in which they stand one behind the other, or that there is none, as the reference does, and what was packed is unpacked; no condition. -/
import Derived.Test.YteeocnknocoefaaRows
import Derived.Test.YteeocnknocoefaaPacksWalk
import Derived.WalkKit
import Derived.ProofKit
import Derived.OpenShut
import Derived.ShutString
import Derived.ChangeOld
import Derived.Below
import Derived.SizedLaws
import Derived.Deep.SlicePairs
namespace Go.Proofs.Yteeocnknocoefaa.wordPacks
open Go.ChangeShapes Go.WideShapes Go.ChangeAt Go.RowKit Go.Deep
set_option linter.unusedVariables false

theorem own : ownKnob Try.prog.godebug = none := by kernel_rfl
theorem laidOut : laidOutB Try.prog = true := by kernel_rfl
theorem bytes34 : Try.prog.bytesOf 34 = 16 := by kernel_rfl

theorem lt_of_cell {w : World} {b o : Nat} {v : Value} (h : w.cell? ⟨b, o, none⟩ = some v) : b < w.heap.size := by
  rcases Nat.lt_or_ge b w.heap.size with hb | hb
  · exact hb
  · have e : w.heap[b]? = none := by simp; omega
    simp [World.cell?, e] at h

theorem add_none (b off i : Nat) : (⟨b, off, none⟩ : Addr).add i = ⟨b, off + i, none⟩ := by
  by_cases h : i = 0
  · subst h; simp [Addr.add]
  · simp [Addr.add, h]

/-- A slice of pairs that came in: without a value, or a row of cells, two a value. -/
def IsPairs (w : World) (a : Option Addr) (len : Nat) : Prop :=
  len = 0 ∨ ∃ (b off : Nat) (N : Nat → Int) (V : Nat → Nat), a = some ⟨b, off, none⟩ ∧ 0 < len ∧ len * 16 ≤ 140737488351232 ∧
    (∀ i, i < len → w.cell? ⟨b, off + i * 2, none⟩ = some (.int .i64 (N i))) ∧ (∀ i, i < len → w.cell? ⟨b, off + i * 2 + 1, none⟩ = some (.int .u64 (V i))) ∧
    (∀ i, i < len → -9223372036854775808 ≤ N i ∧ N i ≤ 9223372036854775807) ∧ ∀ i, i < len → V i < 18446744073709551616

theorem walk (a : Option Addr) (len cap : Nat) (w : World) (h : IsPairs w a len) :
    Calls Try.prog 6 #[.slice a len cap] w fun e w' => e = .returned (.bool true) ∧ Below w.heap.size w w' := by
  rcases h with rfl | ⟨b, off, N, V, rfl, hl, hr, hN, hV, bN, bV⟩
  · exact packs_empty a cap w
  · have hb : b < w.heap.size := lt_of_cell (hN 0 hl)
    cases hP : packSt N V len with
    | none => exact packs_no N V b off len cap w hN hV bN bV hr hb hP
    | some pa => exact packs_yes N V b off len cap pa.1 pa.2 w hl hN hV bN bV hr hb hP

set_option maxRecDepth 100000 in
theorem lifted (os : Os) (started : os.Started) (H : Type) (enc : TypeId × Value → H) :
    ReturnsInHanded {} Try.checked os 6 .any (Rows.wordPacksSpec.pre6 enc Try.prog Try.f6 Rows.wordPacksRow.domain false) (Rows.wordPacksSpec.post enc Try.prog Try.f6 false true false false) := by
  refine returnsInHanded_of_change_sized (C := Try.checked) own started (by kernel_rfl) Try.func6
    (ChangeSpec.witness6 (enc := enc) (C := Try.checked) false ⟨#[], #[.slice none 0 0], []⟩ 8 (by kernel_rfl) (by kernel_rfl) (by kernel_rfl) (by kernel_rfl)) ?_
  intro W base args ds gs before hval0 hW hcnd hsz0 _
  have hval : ∀ (j : Nat) t v, Try.f6.params[j]? = some t → args[j]? = some v → Value.okWide Try.prog W .any base t v := hval0
  have hsz : (DataW.weightsEach Try.prog (Try.f6.params.toList ++ Rows.wordPacksSpec.plain.varTypes Try.prog) (ds ++ gs)).all (· ≤ reachBytes) = true := hsz0
  have hW' := hW
  obtain ⟨p, q, hA0, hV, rfl, hfz, hnd⟩ := hW
  have hA : DataW.TrodAll enc Try.prog W 0 (fun _ => true) true Try.f6.params.toList args.toList ds p := hA0
  rw [Try.params6] at hA hval hsz
  obtain ⟨v0, vs0, d0, ds0, p0, q0, hargs, rfl, rfl, h0, r0⟩ := trodAll_cons hA
  obtain ⟨rfl, rfl, rfl⟩ := trodAll_nil r0
  obtain rfl : args = #[v0] := by cases args; simp_all
  obtain ⟨rfl, rfl⟩ := trodVars_none hV
  obtain ⟨a0, len0, cap0, rfl⟩ := okWide_slice Try.underlying29 (hval 0 29 v0 rfl rfl)
  have k0 := h0
  have lt0 : ∀ x ∈ p0, x.block < W.heap.size := by obtain ⟨m, hm⟩ := k0; exact DataW.trod_lt m _ _ _ hm
  have w0 : IsPairs W a0 len0 := by
    obtain ⟨fuel, hf⟩ := h0
    rcases open_slice_pairs Try.underlying29 Try.underlying34 (by kernel_rfl) rfl rfl (by kernel_rfl) (by kernel_rfl) hf with ⟨hcs, _⟩ | ⟨x, l, c, m, n, V0, V1, D0, D1, P0, P1, hcs, _, hl, hm, hmm, hx, hcell⟩
    · simp [Value.cells] at hcs
      exact .inl hcs.2.1
    · simp [Value.cells] at hcs
      obtain ⟨rfl, rfl, rfl⟩ := hcs
      by_cases hz : len0 = 0
      · exact .inl hz
      · right
        have hlm : len0 ≤ m := by rw [hmm]; simpa using hl
        simp only [Prod.mk.injEq] at hx
        have hd := hx.1
        have hs := sized_slice hsz (j := 0) (t := 29) (e := 34) rfl (by rw [hd]; rfl) Try.underlying29
        rw [bytes34] at hs
        simp only [List.length_map, List.length_range, reachBytes] at hs
        obtain ⟨b, off, spot⟩ := x
        have hspot : spot = none := by simpa [Addr.add] using World.cell?_spot (hcell 0 (by omega)).1
        subst hspot
        have hN : ∀ i, i < m → ∃ nz : Int, V0 i = .int .i64 nz ∧ (Lit.int .i64 nz).wf = true := fun i hi => by
          obtain ⟨z, h1, _, h3⟩ := DataW.trod_int Try.underlying3 (hcell i hi).2.2.1
          simp at h1
          exact ⟨z, h1, h3⟩
        have hV : ∀ i, i < m → ∃ vz : Int, V1 i = .int .u64 vz ∧ (Lit.int .u64 vz).wf = true := fun i hi => by
          obtain ⟨z, h1, _, h3⟩ := DataW.trod_int Try.underlying22 (hcell i hi).2.2.2
          simp at h1
          exact ⟨z, h1, h3⟩
        obtain ⟨N, hN⟩ := choose_lt hN
        obtain ⟨Z, hV⟩ := choose_lt hV
        refine ⟨b, off, N, fun i => (Z i).toNat, rfl, by omega, by omega, fun i hi => ?_, fun i hi => ?_, fun i hi => bounds_i64 (hN i (by omega)).2, fun i hi => ?_⟩
        · rw [← add_none, (hcell i (by omega)).1, (hN i (by omega)).1]
        · have := bounds_u64 (hV i (by omega)).2
          have e : ((Z i).toNat : Int) = Z i := by omega
          rw [Nat.add_assoc, ← add_none, (hcell i (by omega)).2.1, (hV i (by omega)).1, e]
        · have := bounds_u64 (hV i (by omega)).2
          show (Z i).toNat < _
          omega
  clear hA0 hval0
  refine (walk a0 len0 cap0 W w0).mono fun e W' ⟨he, bel⟩ => ?_
  subst he
  exact ⟨_, rfl, _, _, _, [], _, [], hW', trodAll_mk1 (shut_bool Try.underlying4 _), (trodAll_cons_mk (Below.trod laidOut (by kernel_rfl) (of_decide_eq_true (by kernel_rfl)) k0 bel lt0) trodAll_mk0), rfl, bel.frame _, fun h => by cases h⟩

theorem over : Rows.wordPacksRow.holds Try.pinned (OpenSpec.ofChange Rows.wordPacksSpec) :=
  OpenClaim.holds_of_wide 6 Try.f6 rfl rfl rfl rfl rfl rfl rfl ⟨rfl, rfl, rfl, rfl, rfl⟩ rfl rfl rfl rfl rfl (by kernel_rfl) Try.func6 (by kernel_rfl)
    (of_decide_eq_true (by kernel_rfl)) (by unfold Func.isWrapper; first | (rw [if_pos (by decide +kernel)]; kernel_rfl) | (rw [if_neg (by decide +kernel)]; exact ⟨rfl, rfl⟩))
    (fun os started H enc _ => lifted os started H enc)

theorem proved : Rows.WordPacksSaid := over
#print axioms proved
end Go.Proofs.Yteeocnknocoefaa.wordPacks
