/- A client's walk is written. -/
import Derived.Test.YtecppcakgfohbabNP
namespace Go.Proofs.Ytecppcakgfohbab
open Go.RowKit

def opO (X : Sx) (k : Nat) (cH : Nat) (aE : Int) (aH : Nat) (aY : Bool) : Option Sx :=
  if nodeF k cH X.H < 0 then refO X (sameA aE aH aY 2 0 false)
  else if wkF X k ≠ 0 then refO X (sameA aE aH aY 7 0 false)
  else if gvB X aE aH aY = true then some (opS X k aH (reachF X (nodeF k cH X.H))) else none
theorem two {α : Type} {l : List α} (h : l.length = 2) : ∃ a b, l = [a, b] := by
  match l, h with
  | [a, b], _ => exact ⟨a, b, rfl⟩
/-- A client's cells have been stored: all else stays. -/
theorem MdOk.clients {w w' : World} {B : Nat} {L L' : Nat → Prop} {C : Cg} {n : Nat} {X X' : Sx} {m m' : Md} (h : MdOk w B L C n X m) (st : ∀ i, i ≠ m.Bc → w'.heap[i]? = w.heap[i]?)
    (hF : X'.F = X.F) (hH : X'.H = X.H) (hG : X'.G = X.G) (em : m'.vN = m.vN ∧ m'.rows = m.rows ∧ m'.Bc = m.Bc ∧ m'.bG = m.bG ∧ m'.bk = m.bk ∧ m'.cpC = m.cpC ∧ m'.xC = m.xC) (hW : X'.W.length = X.W.length)
    (cl : w'.heap[m.Bc]? = some (.cells (clC m.xC m.bk m'.ck (fun k => wkF X' k) C.c) 83 (0, 0)))
    (ms : ∀ k, k < C.c → IsZ w' (m'.ck k) (cmF X' k)) (hL : ∀ i, L i → L' i)
    (d : ∀ r ∈ m.rows, ∀ g, r.ownBlock = some g → ∀ k, k < C.c → (m'.ck k).ownBlock ≠ some g) (LM : ∀ k, k < C.c → ∀ g, (m'.ck k).ownBlock = some g → L' g) : MdOk w' B L' C n X' m' := by
  obtain ⟨e1, e2, e3, e4, e5, e6, e7⟩ := em
  have nec : ∀ (j : Nat) (c : Array Value) (t : TypeId) (f : Nat × Nat), w.heap[j]? = some (.cells c t f) → t ≠ 83 → w'.heap[j]? = w.heap[j]? := fun j c t f hj ht => st j (ne_cells hj h.cl ht)
  have nem : ∀ j, (∃ (es : Array MapEntry) (c : Nat), w.heap[j]? = some (Obj.map es c)) → w'.heap[j]? = w.heap[j]? := fun j hj => st j fun e => ne_map h.cl hj e.symm
  exact {
    nc := hW.trans h.nc
    head := by rw [e1, e3, e4, e6]; exact (nec _ _ _ _ h.head (by decide)).trans h.head
    cl := by rw [e3, e5, e7]; exact cl
    nodes := by rw [e1, e2, hF]; exact own_kept h.nodes fun q hq => by obtain ⟨c, hc⟩ := own_cells h.nodes hq; exact nec q _ _ _ hc (by decide)
    row := fun i K r hK hr => (h.row i K r (by rw [← hF]; exact hK) (by rw [← e2]; exact hr)).kept fun q hq => by
      obtain ⟨c, hc⟩ := (h.row i K r (by rw [← hF]; exact hK) (by rw [← e2]; exact hr)).cells hq
      exact nec q _ _ _ hc (by decide)
    dis := fun i j r r' g h1 h2 => h.dis i j r r' g (by rw [← e2]; exact h1) (by rw [← e2]; exact h2)
    hs := fun k hk => by rw [e5, hH]; exact (h.hs k hk).kept (nem _ (h.hs k hk).map)
    gv := by rw [e4, hG]; exact h.gv.kept (nem _ h.gv.map)
    ms := ms
    d0 := fun r hr g hg => d r (by rw [← e2]; exact hr) g hg
    mb := by rw [e4, e5]; exact h.mb
    LB := by rw [e3, e4, e5]; exact ⟨hL _ h.LB.1, hL _ h.LB.2.1, fun k hk => hL _ (h.LB.2.2.1 k hk), hL _ h.LB.2.2.2⟩
    LN := by rw [e1]; exact fun g hg => hL _ (h.LN g hg)
    LR := by rw [e2]; exact fun r hr g hg => hL _ (h.LR r hr g hg)
    LM := LM }
theorem wkF_set {X : Sx} {k i a : Nat} (hk : k < X.W.length) : wkF { X with W := X.W.set k a } i = if i = k then a else wkF X i := by
  unfold wkF
  rw [Int.toNat_natCast, List.getD_eq_getElem?_getD, List.getElem?_set]
  by_cases e : k = i
  · subst e; rw [if_pos rfl, if_pos hk, if_pos rfl]; rfl
  · rw [if_neg e, if_neg (Ne.symm e), List.getD_eq_getElem?_getD]
theorem cmF_set {X : Sx} {k i : Nat} {l : List Int} (hk : k < X.M.length) : cmF { X with M := X.M.set k l } i = if i = k then l else cmF X i := by
  unfold cmF
  rw [Int.toNat_natCast, List.getD_eq_getElem?_getD, List.getElem?_set]
  by_cases e : k = i
  · subst e; rw [if_pos rfl, if_pos hk, if_pos rfl]; rfl
  · rw [if_neg e, if_neg (Ne.symm e), List.getD_eq_getElem?_getD]
theorem MdOk.walk {w : World} {B : Nat} {L : Nat → Prop} {C : Cg} {n : Nat} {X : Sx} {m : Md} (h : MdOk w B L C n X m) {k : Nat} (hk : k < C.c) (a : Nat) :
    MdOk (w.setCell ⟨m.Bc, 3 * k + 1, none⟩ (.int .u64 (a : Nat))) B L C n { X with W := X.W.set k a } m := by
  have st : ∀ (j : Nat), j ≠ m.Bc → (w.setCell ⟨m.Bc, 3 * k + 1, none⟩ (.int .u64 (a : Nat))).heap[j]? = w.heap[j]? := fun j hj => Below.heap_setCell _ _ _ _ hj
  have keepZ : ∀ (vv : Value) (xs : List Int), IsZ w vv xs → IsZ (w.setCell ⟨m.Bc, 3 * k + 1, none⟩ (.int .u64 (a : Nat))) vv xs := fun vv xs hz => hz.kept fun q hq => by
    obtain ⟨c, hc⟩ := hz.cells hq
    exact st q (ne_cells hc h.cl (by decide))
  have hp := heap_put (o := 3 * k + 1) h.cl (.int .u64 (a : Nat))
  rw [clC_walk _ _ _ _ hk] at hp
  refine h.clients (m' := m) st rfl rfl rfl ⟨rfl, rfl, rfl, rfl, rfl, rfl, rfl⟩ (List.length_set ..) ?_ (fun j hj => keepZ _ _ (h.ms j hj)) (fun _ q => q) h.d0 h.LM
  rw [hp]
  congr 2
  exact clC_congr (fun _ _ => rfl) (fun _ _ => rfl) fun i _ => (wkF_set (by rw [h.nc]; exact hk)).symm
def Md.come (m : Md) (k : Nat) (v : Value) : Md := { m with ck := fun i => if i = k then v else m.ck i }
theorem MdOk.come {w : World} {B : Nat} {L L' : Nat → Prop} {C : Cg} {n : Nat} {X : Sx} {m : Md} (h : MdOk w B L C n X m) {k : Nat} (h2 : k < X.M.length) (hk : k < C.c) {v : Value} {l : List Int} (hz : IsZ w v l)
    (hd : ∀ r ∈ m.rows, ∀ g, r.ownBlock = some g → v.ownBlock ≠ some g) (hL : ∀ i, L i → L' i) (hv : ∀ g, v.ownBlock = some g → L' g) :
    MdOk (w.setCell ⟨m.Bc, 3 * k + 2, none⟩ v) B L' C n { X with M := X.M.set k l } (m.come k v) := by
  have st : ∀ (j : Nat), j ≠ m.Bc → (w.setCell ⟨m.Bc, 3 * k + 2, none⟩ v).heap[j]? = w.heap[j]? := fun j hj => Below.heap_setCell _ _ _ _ hj
  have keepZ : ∀ (vv : Value) (xs : List Int), IsZ w vv xs → IsZ (w.setCell ⟨m.Bc, 3 * k + 2, none⟩ v) vv xs := fun vv xs hz => hz.kept fun q hq => by
    obtain ⟨c, hc⟩ := hz.cells hq
    exact st q (ne_cells hc h.cl (by decide))
  have hp := heap_put (o := 3 * k + 2) h.cl v
  rw [clC_come _ _ _ _ hk] at hp
  refine h.clients (m' := m.come k v) st rfl rfl rfl ⟨rfl, rfl, rfl, rfl, rfl, rfl, rfl⟩ rfl hp (fun j hj => ?_) hL (fun r hr g hg j hj => ?_) (fun j hj g hg => ?_)
  · rw [cmF_set h2]
    show IsZ _ (if j = k then v else m.ck j) _
    by_cases e : j = k
    · rw [if_pos e, if_pos e]; exact keepZ _ _ hz
    · rw [if_neg e, if_neg e]; exact keepZ _ _ (h.ms j hj)
  · show (if j = k then v else m.ck j).ownBlock ≠ _
    by_cases e : j = k
    · rw [if_pos e]; exact hd r hr g hg
    · rw [if_neg e]; exact h.d0 r hr g hg j hj
  · have hg' : (if j = k then v else m.ck j).ownBlock = some g := hg
    by_cases e : j = k
    · rw [if_pos e] at hg'; exact hv g hg'
    · rw [if_neg e] at hg'; exact hL _ (h.LM j hj g hg')
end Go.Proofs.Ytecppcakgfohbab
