/- A client's walk is written. -/
import Derived.Test.YtfllkacebhcbdaaNP
namespace Go.Proofs.Ytfllkacebhcbdaa
open Go.RowKit

def opO (X : Sx) (k : Nat) (cH : Nat) (aE : Int) (aH : Nat) (aY : Bool) : Option Sx :=
  if nodeF k cH X.H < 0 then refO X (sameA aE aH aY 2 0 false)
  else if wkF X k ≠ 0 then refO X (sameA aE aH aY 7 0 false)
  else if gvB X aE aH aY = true then some (opS X k aH (reachF X (nodeF k cH X.H))) else none
theorem two {α : Type} {l : List α} (h : l.length = 2) : ∃ a b, l = [a, b] := by
  match l, h with
  | [a, b], _ => exact ⟨a, b, rfl⟩
/-- A client's cells have been stored: all else stays. -/
theorem MdOk.clients {w w' : World} {B : Nat} {L L' : Nat → Prop} {C : Cg} {n : Nat} {X X' : Sx} {m m' : Md} (h : MdOk w B L C n X m) (st : ∀ i, i ≠ m.Bc → w'.heap[i]? = w.heap[i]?)
    (hF : X'.F = X.F) (hH : X'.H = X.H) (hG : X'.G = X.G) (em : m'.vN = m.vN ∧ m'.rows = m.rows ∧ m'.Bc = m.Bc ∧ m'.bG = m.bG ∧ m'.b0 = m.b0 ∧ m'.b1 = m.b1)
    (cl : w'.heap[m.Bc]? = some (.cells #[.map (some m.b0), .int .u64 (wkF X' 0 : Nat), m'.c0, .map (some m.b1), .int .u64 (wkF X' 1 : Nat), m'.c1] 52 (0, 0)))
    (m0 : IsZ w' m'.c0 (cmF X' 0)) (m1 : IsZ w' m'.c1 (cmF X' 1)) (hL : ∀ i, L i → L' i)
    (d : ∀ r ∈ m.rows, ∀ g, r.ownBlock = some g → m'.c0.ownBlock ≠ some g ∧ m'.c1.ownBlock ≠ some g) (LM : (∀ g, m'.c0.ownBlock = some g → L' g) ∧ ∀ g, m'.c1.ownBlock = some g → L' g) : MdOk w' B L' C n X' m' := by
  obtain ⟨e1, e2, e3, e4, e5, e6⟩ := em
  have nec : ∀ (j : Nat) (c : Array Value) (t : TypeId) (f : Nat × Nat), w.heap[j]? = some (.cells c t f) → t ≠ 52 → w'.heap[j]? = w.heap[j]? := fun j c t f hj ht => st j (ne_cells hj h.cl ht)
  have nem : ∀ j, (∃ (es : Array MapEntry) (c : Nat), w.heap[j]? = some (Obj.map es c)) → w'.heap[j]? = w.heap[j]? := fun j hj => st j fun e => ne_map h.cl hj e.symm
  exact {
    head := by rw [e1, e3, e4]; exact (nec _ _ _ _ h.head (by decide)).trans h.head
    cl := by rw [e3, e5, e6]; exact cl
    nodes := by rw [e1, e2, hF]; exact own_kept h.nodes fun q hq => by obtain ⟨c, hc⟩ := own_cells h.nodes hq; exact nec q _ _ _ hc (by decide)
    row := fun i K r hK hr => (h.row i K r (by rw [← hF]; exact hK) (by rw [← e2]; exact hr)).kept fun q hq => by
      obtain ⟨c, hc⟩ := (h.row i K r (by rw [← hF]; exact hK) (by rw [← e2]; exact hr)).cells hq
      exact nec q _ _ _ hc (by decide)
    dis := fun i j r r' g h1 h2 => h.dis i j r r' g (by rw [← e2]; exact h1) (by rw [← e2]; exact h2)
    h0 := by rw [e5, hH]; exact h.h0.kept (nem _ h.h0.map)
    h1 := by rw [e6, hH]; exact h.h1.kept (nem _ h.h1.map)
    gv := by rw [e4, hG]; exact h.gv.kept (nem _ h.gv.map)
    m0 := m0
    m1 := m1
    d0 := fun r hr g hg => d r (by rw [← e2]; exact hr) g hg
    mb := by rw [e4, e5, e6]; exact h.mb
    LB := by rw [e3, e4, e5, e6]; exact ⟨hL _ h.LB.1, hL _ h.LB.2.1, hL _ h.LB.2.2.1, hL _ h.LB.2.2.2.1, hL _ h.LB.2.2.2.2⟩
    LN := by rw [e1]; exact fun g hg => hL _ (h.LN g hg)
    LR := by rw [e2]; exact fun r hr g hg => hL _ (h.LR r hr g hg)
    LM := LM }
theorem MdOk.walk {w : World} {B : Nat} {L : Nat → Prop} {C : Cg} {n : Nat} {X : Sx} {m : Md} (h : MdOk w B L C n X m) (h2 : X.W.length = 2) {k : Nat} (hk : k < 2) (a : Nat) :
    MdOk (w.setCell ⟨m.Bc, 3 * k + 1, none⟩ (.int .u64 (a : Nat))) B L C n { X with W := X.W.set k a } m := by
  have st : ∀ (j : Nat), j ≠ m.Bc → (w.setCell ⟨m.Bc, 3 * k + 1, none⟩ (.int .u64 (a : Nat))).heap[j]? = w.heap[j]? := fun j hj => Below.heap_setCell _ _ _ _ hj
  have keepZ : ∀ (vv : Value) (xs : List Int), IsZ w vv xs → IsZ (w.setCell ⟨m.Bc, 3 * k + 1, none⟩ (.int .u64 (a : Nat))) vv xs := fun vv xs hz => hz.kept fun q hq => by
    obtain ⟨c, hc⟩ := hz.cells hq
    exact st q (ne_cells hc h.cl (by decide))
  have hp := heap_put (o := 3 * k + 1) h.cl (.int .u64 (a : Nat))
  obtain ⟨W0, W1, hW⟩ := two h2
  refine h.clients (m' := m) st rfl rfl rfl ⟨rfl, rfl, rfl, rfl, rfl, rfl⟩ ?_ (keepZ _ _ h.m0) (keepZ _ _ h.m1) (fun _ q => q) h.d0 h.LM
  match k, hk with
  | 0, _ => simpa [wkF, hW] using hp
  | 1, _ => simpa [wkF, hW] using hp
def Md.come (m : Md) (k : Nat) (v : Value) : Md := if k = 0 then { m with c0 := v } else { m with c1 := v }
theorem MdOk.come {w : World} {B : Nat} {L L' : Nat → Prop} {C : Cg} {n : Nat} {X : Sx} {m : Md} (h : MdOk w B L C n X m) (h2 : X.M.length = 2) {k : Nat} (hk : k < 2) {v : Value} {l : List Int} (hz : IsZ w v l)
    (hd : ∀ r ∈ m.rows, ∀ g, r.ownBlock = some g → v.ownBlock ≠ some g) (hL : ∀ i, L i → L' i) (hv : ∀ g, v.ownBlock = some g → L' g) :
    MdOk (w.setCell ⟨m.Bc, 3 * k + 2, none⟩ v) B L' C n { X with M := X.M.set k l } (m.come k v) := by
  have st : ∀ (j : Nat), j ≠ m.Bc → (w.setCell ⟨m.Bc, 3 * k + 2, none⟩ v).heap[j]? = w.heap[j]? := fun j hj => Below.heap_setCell _ _ _ _ hj
  have keepZ : ∀ (vv : Value) (xs : List Int), IsZ w vv xs → IsZ (w.setCell ⟨m.Bc, 3 * k + 2, none⟩ v) vv xs := fun vv xs hz => hz.kept fun q hq => by
    obtain ⟨c, hc⟩ := hz.cells hq
    exact st q (ne_cells hc h.cl (by decide))
  have hp := heap_put (o := 3 * k + 2) h.cl v
  obtain ⟨M0, M1, hM⟩ := two h2
  match k, hk with
  | 0, _ =>
    refine h.clients (m' := { m with c0 := v }) st rfl rfl rfl ⟨rfl, rfl, rfl, rfl, rfl, rfl⟩ (by simpa [wkF] using hp) ?_ ?_ hL (fun r hr g hg => ⟨hd r hr g hg, (h.d0 r hr g hg).2⟩) ⟨hv, fun g hg => hL _ (h.LM.2 g hg)⟩
    · have e : cmF { X with M := X.M.set 0 l } 0 = l := by simp [cmF, hM]
      rw [e]
      exact keepZ _ _ hz
    · have e : cmF { X with M := X.M.set 0 l } 1 = cmF X 1 := by simp [cmF, hM]
      rw [e]
      exact keepZ _ _ h.m1
  | 1, _ =>
    refine h.clients (m' := { m with c1 := v }) st rfl rfl rfl ⟨rfl, rfl, rfl, rfl, rfl, rfl⟩ (by simpa [wkF] using hp) ?_ ?_ hL (fun r hr g hg => ⟨(h.d0 r hr g hg).1, hd r hr g hg⟩) ⟨fun g hg => hL _ (h.LM.1 g hg), hv⟩
    · have e : cmF { X with M := X.M.set 1 l } 0 = cmF X 0 := by simp [cmF, hM]
      rw [e]
      exact keepZ _ _ h.m0
    · have e : cmF { X with M := X.M.set 1 l } 1 = l := by simp [cmF, hM]
      rw [e]
      exact keepZ _ _ hz
end Go.Proofs.Ytfllkacebhcbdaa
