/- ops: what a piece bears; plain retains; what may follow what. ops.Canonical. What vellumref04.SameCell and SameCells answer: whether the cells are the same. What content.Cut answers. What content.Join answers. content.textCells: the cells of a text. What the values' methods answer: Kind, Plain; how values of the interface compare. What content.Cells and content.Newlines answer. vellumlaw04.lives. Joins of inserts, purely; Join at all operations. Deltas unit by unit: what operations are, cell by cell and gap by gap; canonical lists are told apart by it. The canonical list of operations: its units are theirs, each gap's inserts ahead of its deletes. Deltas unit by unit: their edits of cells; their lengths. The pieces of a cut text, purely. Deltas unit by unit: parts and turned parts; documents and their cells. A builder in memory: what stands while it is written; the strings.Builder that it bears. -/
import Derived.Test.YthfpmhnnjjikcabGreatDoorPQe
import Derived.Test.YthfpmhnnjjikcabGreatDoorPSm
import Derived.Test.YthfpmhnnjjikcabGreatDoorPCc
import Derived.Deep.RegionHeld3
import Derived.Test.YthfpmhnnjjikcabGreatDoorPCq
import Derived.BigRegion
import Derived.Deep.DeepCutAuto
import Derived.Laws.MakeOwn
import Derived.Test.YthfpmhnnjjikcabGreatDoorPVs
import Derived.Test.YthfpmhnnjjikcabGreatDoorPVf
import Derived.Lib.FrozenHead2
import Derived.Lib.UnsafeStr
import Derived.Lib.OthersKept

/- ops: what a piece bears; plain retains; what may follow what. -/
namespace Go.Proofs.YthfpmhnnjjikcabGreatDoor
open Go Go.RowKit Go.Lib
set_option linter.unusedVariables false
theorem pieceQ_1 {o : Op5} {s : Value} (h : o.k = 1) : pieceQ o s = .iface 184 (.agg #[s, .string o.t, .int .i64 (scs o.t.data.toList).length]) := by unfold pieceQ; rw [if_pos h]
theorem pieceQ_2 {o : Op5} {s : Value} (h : o.k = 2) : pieceQ o s = .iface 189 (.agg #[s, .string o.t, valP o.v]) := by unfold pieceQ; rw [if_neg (by omega), if_pos h]
theorem pieceQ_3 {o : Op5} {s : Value} (h : o.k = 3) : pieceQ o s = .iface 115 (.agg #[s, .int .i64 o.c]) := by unfold pieceQ; rw [if_neg (by omega), if_neg (by omega), if_pos h]
theorem pieceQ_4 {o : Op5} {s : Value} (h : o.k = 4) : pieceQ o s = .iface 111 (.agg #[.int .i64 o.c]) := by unfold pieceQ; rw [if_neg (by omega), if_neg (by omega), if_neg (by omega)]
/-- Is an operation a plain retain? -/
def plainR (o : Op5) : Bool := o.k == 3 && o.A.isEmpty
/-- May an operation stand right behind another one in a canonical list? -/
def apartB (x y : Op5) : Bool := if x.k = 4 then y.k == 3 else if x.k ≠ y.k ∨ x.k = 2 then true else !decide (x.A = y.A)
theorem drop_A {o : Op5} (h : opE o = 0) (hk : o.k = 4) : o.A = [] := by
  rcases op_good h with ⟨_, h1⟩ | ⟨_, _, h1⟩ | ⟨_, h2, _⟩
  · omega
  · omega
  · exact h2

end Go.Proofs.YthfpmhnnjjikcabGreatDoor

/- ops.Canonical. -/
namespace Go.Proofs.YthfpmhnnjjikcabGreatDoor
open Go Go.RowKit Go.Lib
set_option linter.unusedVariables false
/-- Each may follow the one ahead of it. -/
def chainB : List Op5 → Bool
  | x :: y :: r => apartB x y && chainB (y :: r)
  | _ => true
/-- The last one isn't a plain retain. -/
def lastP (E : List Op5) : Bool := match E.getLast? with | some o => !plainR o | none => true
end Go.Proofs.YthfpmhnnjjikcabGreatDoor

/- What vellumref04.SameCell and SameCells answer: whether the cells are the same. -/
namespace Go.Proofs.YthfpmhnnjjikcabGreatDoor
open Go Go.RowKit Go.Lib
set_option linter.unusedVariables false
abbrev ceC (d : CV) : Array Value := #[.int .i32 d.1, .string d.2.1, .int .i64 d.2.2.1.1, .int .i64 d.2.2.1.2.1, .string d.2.2.1.2.2, slV d.2.2.2]
end Go.Proofs.YthfpmhnnjjikcabGreatDoor

/- What content.Cut answers. -/
namespace Go.Proofs.YthfpmhnnjjikcabGreatDoor
open Go Go.RowKit Go.Lib
set_option linter.unusedVariables false
theorem heap_set7 {B k : Nat} (w' : World) (hk : k ≠ B) (v0 v1 v2 v3 v4 v5 v6 : Value) :
    (((((((w'.setCell ⟨B, 0, none⟩ v0).setCell ⟨B, 1, none⟩ v1).setCell ⟨B, 2, none⟩ v2).setCell ⟨B, 3, none⟩ v3).setCell ⟨B, 4, none⟩ v4).setCell ⟨B, 5, none⟩ v5).setCell ⟨B, 6, none⟩ v6).heap[k]? = w'.heap[k]? := by
  have h : ∀ (W : World) (j : Nat) (v : Value), (W.setCell ⟨B, j, none⟩ v).heap[k]? = W.heap[k]? := fun W j v => Below.heap_setCell _ _ _ _ hk
  rw [h, h, h, h, h, h, h]
theorem cell_set7 {B k j : Nat} (w' : World) (hk : k ≠ B) (v0 v1 v2 v3 v4 v5 v6 : Value) :
    (((((((w'.setCell ⟨B, 0, none⟩ v0).setCell ⟨B, 1, none⟩ v1).setCell ⟨B, 2, none⟩ v2).setCell ⟨B, 3, none⟩ v3).setCell ⟨B, 4, none⟩ v4).setCell ⟨B, 5, none⟩ v5).setCell ⟨B, 6, none⟩ v6).cell? ⟨k, j, none⟩ = w'.cell? ⟨k, j, none⟩ :=
  World.cell?_of_block (a := ⟨k, j, none⟩) (heap_set7 w' hk v0 v1 v2 v3 v4 v5 v6)
theorem below_set7 {b B : Nat} {w w' : World} (h : Below b w w') (hB : b ≤ B) (v0 v1 v2 v3 v4 v5 v6 : Value) :
    Below b w (((((((w'.setCell ⟨B, 0, none⟩ v0).setCell ⟨B, 1, none⟩ v1).setCell ⟨B, 2, none⟩ v2).setCell ⟨B, 3, none⟩ v3).setCell ⟨B, 4, none⟩ v4).setCell ⟨B, 5, none⟩ v5).setCell ⟨B, 6, none⟩ v6) :=
  ((((((h.setCell hB _).setCell hB _).setCell hB _).setCell hB _).setCell hB _).setCell hB _).setCell hB _

end Go.Proofs.YthfpmhnnjjikcabGreatDoor

/- What content.Join answers. -/
namespace Go.Proofs.YthfpmhnnjjikcabGreatDoor
open Go Go.RowKit Go.Lib
set_option linter.unusedVariables false
def joinO (o o' : Op5) : Op5 := ⟨1, o.t ++ o'.t, z0, 0, o.A⟩
end Go.Proofs.YthfpmhnnjjikcabGreatDoor

/- content.textCells: the cells of a text. -/
namespace Go.Proofs.YthfpmhnnjjikcabGreatDoor
open Go Go.RowKit Go.Lib
set_option linter.unusedVariables false
/-- Cells of scalars with one list. -/
def mkC (A : List A2) (rs : List Nat) : List C5 := rs.map fun (r : Nat) => (((r : Nat) : Int), ⟨#[]⟩, z0, A)
theorem mkC_len (A : List A2) (rs : List Nat) : (mkC A rs).length = rs.length := by simp [mkC]
theorem keepA_iterAt {w : World} {K : Nat} {s : ByteArray} {p0 : Nat} (hk : w.heap[K]? = some (.stringIter s p0)) (p : Nat) : KeepA w (w.iterAt K s p) := fun k cur hc => by
  have hne : k ≠ K := fun e => by subst e; rw [hk] at hc; cases hc
  simp [World.iterAt, Ne.symm hne]
end Go.Proofs.YthfpmhnnjjikcabGreatDoor

/- What the values' methods answer: Kind, Plain; how values of the interface compare. -/
namespace Go.Proofs.YthfpmhnnjjikcabGreatDoor
open Go Go.RowKit Go.Lib
set_option linter.unusedVariables false
theorem plain_n (w : World) : Calls Tryz.prog 213 #[.agg #[]] w fun e w' => e = .returned (pl 0 0 ⟨#[]⟩) ∧ Below w.heap.size w w' := by
  go_enter Tryz.func213, Tryz.ntmps213
  go_wp2
  exact bodyPost_ret (v := pl 0 0 ⟨#[]⟩) (by simp [results, Tryz.results213, go_sem]) rfl ⟨rfl, by go_grown⟩
theorem plain_f (b : Bool) (w : World) : Calls Tryz.prog 207 #[.bool b] w fun e w' => e = .returned (pl 1 (if b then 1 else 0) ⟨#[]⟩) ∧ Below w.heap.size w w' := by
  cases b
  · go_enter Tryz.func207, Tryz.ntmps207
    go_wp2
    exact bodyPost_ret (v := pl 1 0 ⟨#[]⟩) (by simp [results, Tryz.results207, go_sem]) rfl ⟨rfl, by go_grown⟩
  · go_enter Tryz.func207, Tryz.ntmps207
    go_wp2
    exact bodyPost_ret (v := pl 1 1 ⟨#[]⟩) (by simp [results, Tryz.results207, go_sem]) rfl ⟨rfl, by go_grown⟩
theorem plain_d (n : Int) (w : World) : Calls Tryz.prog 209 #[.int .i64 n] w fun e w' => e = .returned (pl 2 n ⟨#[]⟩) ∧ Below w.heap.size w w' := by
  go_enter Tryz.func209, Tryz.ntmps209
  go_wp2
  exact bodyPost_ret (v := pl 2 n ⟨#[]⟩) (by simp [results, Tryz.results209, go_sem]) rfl ⟨rfl, by go_grown⟩
theorem plain_t (t : ByteArray) (w : World) : Calls Tryz.prog 211 #[.string t] w fun e w' => e = .returned (pl 3 0 t) ∧ Below w.heap.size w w' := by
  go_enter Tryz.func211, Tryz.ntmps211
  go_wp2
  exact bodyPost_ret (v := pl 3 0 t) (by simp [results, Tryz.results211, go_sem]) rfl ⟨rfl, by go_grown⟩

/-! '==' at api.Value. -/
end Go.Proofs.YthfpmhnnjjikcabGreatDoor

/- What content.Cells and content.Newlines answer. -/
namespace Go.Proofs.YthfpmhnnjjikcabGreatDoor
open Go Go.RowKit Go.Lib
set_option linter.unusedVariables false
/-- An insert's cells. -/
def cellsOf (o : Op5) : List C5 := if o.k = 1 then mkC o.A (scs o.t.data.toList) else [(-1, o.t, o.v, o.A)]
theorem cellsOf_len (o : Op5) : (cellsOf o).length = lenO o := by
  unfold cellsOf lenO
  split
  · exact mkC_len _ _
  · rfl
theorem plain_f0 (w : World) : Calls Tryz.prog 207 #[.bool false] w fun e w' => e = .returned (pl 1 0 ⟨#[]⟩) ∧ Below w.heap.size w w' := plain_f false w
theorem plain_f1 (w : World) : Calls Tryz.prog 207 #[.bool true] w fun e w' => e = .returned (pl 1 1 ⟨#[]⟩) ∧ Below w.heap.size w w' := plain_f true w

end Go.Proofs.YthfpmhnnjjikcabGreatDoor

/- vellumlaw04.lives. -/
namespace Go.Proofs.YthfpmhnnjjikcabGreatDoor
open Go Go.RowKit Go.Lib
set_option linter.unusedVariables false
abbrev tA : ByteArray := ⟨#[97, 195, 169, 226, 130, 172]⟩
end Go.Proofs.YthfpmhnnjjikcabGreatDoor

/- Joins of inserts, purely; Join at all operations. -/
namespace Go.Proofs.YthfpmhnnjjikcabGreatDoor
open Go Go.RowKit Go.Lib
set_option linter.unusedVariables false
theorem isEmp_size {t : ByteArray} (h : t.toList.isEmpty = false) : 0 < t.size := by
  rcases Nat.eq_zero_or_pos t.size with h0 | h0
  · exfalso
    have : t.toList = [] := by rw [toList_data]; exact List.eq_nil_of_length_eq_zero (by rw [size_toList]; exact h0)
    rw [this] at h; cases h
  · exact h0
theorem size_isEmp {t : ByteArray} (h : 0 < t.size) : t.toList.isEmpty = false := by
  cases he : t.toList.isEmpty
  · rfl
  · rw [emp_iff] at he
    subst he
    exact absurd h (by decide)
theorem cat_list (a b : ByteArray) : (a ++ b).data.toList = a.data.toList ++ b.data.toList := by rw [ByteArray.data_append, Array.toList_append]
theorem scs_cat {a b : List UInt8} (ha : brk a = a.length) (hb : brk b = b.length) : scs (a ++ b) = scs a ++ scs b ∧ brk (a ++ b) = (a ++ b).length := by
  have ea := valid_of_brk ha
  have eb := valid_of_brk hb
  obtain ⟨_, h1, _, _⟩ := text_cases a
  obtain ⟨_, h2, _, _⟩ := text_cases b
  have h12 : ∀ r ∈ scs a ++ scs b, scal r := fun r hr => by
    rcases List.mem_append.1 hr with h | h
    · exact h1 r h
    · exact h2 r h
  have e : a ++ b = encs (scs a ++ scs b) ++ [] := by
    rw [List.append_nil, encs_append, ← ea, ← eb]
  refine ⟨?_, ?_⟩
  · conv => lhs; rw [e]
    exact scs_eq h12 (Or.inl rfl)
  · conv => lhs; rw [e]
    rw [brk_eq h12 (Or.inl rfl), encs_append, ← ea, ← eb]
theorem cells_join {o o' : Op5} (h : Ins o) (h' : Ins o') (hk : o.k = 1) (hk' : o'.k = 1) (hA : o.A = o'.A) : cellsOf (joinO o o') = cellsOf o ++ cellsOf o' := by
  unfold cellsOf
  rw [if_pos (show (joinO o o').k = 1 from rfl), if_pos hk, if_pos hk', ← hA]
  show mkC o.A (scs (o.t ++ o'.t).data.toList) = _
  rw [cat_list, (scs_cat (by rw [h.utf, size_toList]) (by rw [h'.utf, size_toList])).1]
  simp [mkC]
end Go.Proofs.YthfpmhnnjjikcabGreatDoor

/- Deltas unit by unit: what operations are, cell by cell and gap by gap; canonical lists are told apart by it. -/
namespace Go.Proofs.YthfpmhnnjjikcabGreatDoor
open Go Go.RowKit Go.Lib
set_option linter.unusedVariables false
/-- A unit of a delta: a cell that comes, a cell that stays with a patch, a cell that goes. -/
inductive U6 where
  | ins (c : C5)
  | keep (A : List A2)
  | del
/-- An operation that is well formed but for the upper bound of its count. -/
def Wel (o : Op5) : Prop := (Ins o ∧ (o.k = 1 ∨ o.k = 2)) ∨ (o.k = 3 ∧ o.t = ⟨#[]⟩ ∧ o.v = z0 ∧ 1 ≤ o.c ∧ listE true none o.A = 0) ∨ (o.k = 4 ∧ o.t = ⟨#[]⟩ ∧ o.v = z0 ∧ 1 ≤ o.c ∧ o.A = [])
theorem wel_of {o : Op5} (h : opE o = 0) : Wel o := by
  rcases op_good h with h | ⟨h1, h2, h3⟩ | ⟨h1, h2, h3⟩
  · exact Or.inl h
  · exact Or.inr (Or.inl ⟨h3, emp_iff.1 h1.text, h1.val, h1.lo, h2⟩)
  · exact Or.inr (Or.inr ⟨h3, emp_iff.1 h1.text, h1.val, h1.lo, h2⟩)
theorem Wel.good {o : Op5} (h : Wel o) (hc : o.c ≤ 1099511627776) : opE o = 0 := by
  rcases h with ⟨h1, h2⟩ | ⟨h1, h2, h3, h4, h5⟩ | ⟨h1, h2, h3, h4, h5⟩
  · unfold opE; rw [if_pos h2]; exact h1.zero
  · unfold opE
    rw [if_neg (by omega), if_pos h1, if_neg (by simpa using cnt_iff.2 ⟨emp_iff.2 h2, h3, h4, hc⟩)]
    exact h5
  · unfold opE
    rw [if_neg (by omega), if_neg (by omega), if_pos h1, if_neg (by simpa using h5)]
    exact cnt_iff.2 ⟨emp_iff.2 h2, h3, h4, hc⟩
theorem Wel.kinds {o : Op5} (h : Wel o) : o.k = 1 ∨ o.k = 2 ∨ o.k = 3 ∨ o.k = 4 := by
  rcases h with ⟨_, h⟩ | ⟨h, _⟩ | ⟨h, _⟩ <;> omega
/-- What an operation is, unit by unit. -/
def unitsO (o : Op5) : List U6 :=
  if o.k = 1 ∨ o.k = 2 then (cellsOf o).map .ins else if o.k = 3 then List.replicate o.c.toNat (.keep o.A) else List.replicate o.c.toNat .del
def units : List Op5 → List U6
  | [] => []
  | o :: r => unitsO o ++ units r
theorem units_append : ∀ E F : List Op5, units (E ++ F) = units E ++ units F
  | [], F => rfl
  | o :: r, F => by
    show unitsO o ++ units (r ++ F) = _
    rw [units_append r F, ← List.append_assoc]; rfl
theorem units_one (o : Op5) : units [o] = unitsO o := by show unitsO o ++ [] = _; rw [List.append_nil]

/-- May two units be of one operation? -/
def runB : U6 → U6 → Prop
  | .ins c, .ins d => 0 ≤ c.1 ∧ 0 ≤ d.1 ∧ c.2.2.2 = d.2.2.2
  | .keep A, .keep B => A = B
  | .del, .del => True
  | _, _ => False
instance (u v : U6) : Decidable (runB u v) := by cases u <;> cases v <;> unfold runB <;> infer_instance

theorem mem_cells1 {o : Op5} (hk : o.k = 1) {u : U6} (h : u ∈ (cellsOf o).map U6.ins) : ∃ r : Nat, u = .ins ((r : Int), ⟨#[]⟩, z0, o.A) := by
  obtain ⟨c, hc, rfl⟩ := List.mem_map.1 h
  unfold cellsOf at hc
  rw [if_pos hk, mkC] at hc
  obtain ⟨r, _, rfl⟩ := List.mem_map.1 hc
  exact ⟨r, rfl⟩
theorem cells2 {o : Op5} (hk : o.k = 2) : (cellsOf o).map U6.ins = [.ins (-1, o.t, o.v, o.A)] := by
  unfold cellsOf
  rw [if_neg (by omega)]; rfl
theorem scs_ne {t : ByteArray} (h : t.toList.isEmpty = false) (hb : brk t.data.toList = t.size) : scs t.data.toList ≠ [] := fun e => by
  have h1 := isEmp_size h
  unfold brk at hb
  rw [e] at hb
  simp [encs] at hb
  omega
/-- Every operation has a unit. -/
theorem unitsO_ne {o : Op5} (h : Wel o) : unitsO o ≠ [] := by
  unfold unitsO
  rcases h with ⟨h1, h2⟩ | ⟨h1, h2, h3, h4, h5⟩ | ⟨h1, h2, h3, h4, h5⟩
  · rw [if_pos h2]
    rcases h2 with h2 | h2
    · unfold cellsOf
      rw [if_pos h2, mkC]
      intro e
      rw [List.map_eq_nil_iff, List.map_eq_nil_iff] at e
      exact scs_ne h1.full h1.utf e
    · rw [cells2 h2]; simp
  · rw [if_neg (by omega), if_pos h1]
    intro e
    have := congrArg List.length e
    simp at this
    omega
  · rw [if_neg (by omega), if_neg (by omega)]
    intro e
    have := congrArg List.length e
    simp at this
    omega
/-- What a unit of an operation tells of it. -/
theorem unit_cases {o : Op5} (h : Wel o) {u : U6} (hu : u ∈ unitsO o) : (o.k = 1 ∧ ∃ r : Nat, u = .ins ((r : Int), ⟨#[]⟩, z0, o.A)) ∨ (o.k = 2 ∧ u = .ins (-1, o.t, o.v, o.A)) ∨ (o.k = 3 ∧ u = .keep o.A) ∨ (o.k = 4 ∧ u = .del) := by
  unfold unitsO at hu
  rcases h.kinds with hk | hk | hk | hk
  · rw [if_pos (Or.inl hk)] at hu
    exact Or.inl ⟨hk, mem_cells1 hk hu⟩
  · rw [if_pos (Or.inr hk), cells2 hk] at hu
    exact Or.inr (Or.inl ⟨hk, List.mem_singleton.1 hu⟩)
  · rw [if_neg (by omega), if_pos hk] at hu
    exact Or.inr (Or.inr (Or.inl ⟨hk, List.eq_of_mem_replicate hu⟩))
  · rw [if_neg (by omega), if_neg (by omega)] at hu
    exact Or.inr (Or.inr (Or.inr ⟨hk, List.eq_of_mem_replicate hu⟩))
theorem run_in {o : Op5} (h : Wel o) (hk : o.k ≠ 2) {u v : U6} (hu : u ∈ unitsO o) (hv : v ∈ unitsO o) : runB u v := by
  rcases unit_cases h hu with ⟨h1, r, rfl⟩ | ⟨h1, rfl⟩ | ⟨h1, rfl⟩ | ⟨h1, rfl⟩
  · rcases unit_cases h hv with ⟨h2, r', rfl⟩ | ⟨h2, rfl⟩ | ⟨h2, rfl⟩ | ⟨h2, rfl⟩
    · exact ⟨by simp, by simp, rfl⟩
    all_goals omega
  · exact absurd h1 hk
  · rcases unit_cases h hv with ⟨h2, r', rfl⟩ | ⟨h2, rfl⟩ | ⟨h2, rfl⟩ | ⟨h2, rfl⟩
    any_goals omega
    rfl
  · rcases unit_cases h hv with ⟨h2, r', rfl⟩ | ⟨h2, rfl⟩ | ⟨h2, rfl⟩ | ⟨h2, rfl⟩
    any_goals omega
    trivial
theorem run_apart {x y : Op5} (hx : Wel x) (hy : Wel y) (ha : apartB x y = true) {u v : U6} (hu : u ∈ unitsO x) (hv : v ∈ unitsO y) : ¬ runB u v := by
  unfold apartB at ha
  rcases unit_cases hx hu with ⟨h1, r, rfl⟩ | ⟨h1, rfl⟩ | ⟨h1, rfl⟩ | ⟨h1, rfl⟩ <;> rcases unit_cases hy hv with ⟨h2, r', rfl⟩ | ⟨h2, rfl⟩ | ⟨h2, rfl⟩ | ⟨h2, rfl⟩
  all_goals first | (intro h; cases h; done) | skip
  · rw [if_neg (by omega), if_neg (by omega)] at ha
    rintro ⟨_, _, h⟩
    simp only at h
    simp [h] at ha
  · rintro ⟨_, h, _⟩
    simp at h
  · rintro ⟨h, _, _⟩
    simp at h
  · rintro ⟨h, _, _⟩
    simp at h
  · rw [if_neg (by omega), if_neg (by omega)] at ha
    intro h
    have h : x.A = y.A := h
    simp [h] at ha
  · rw [if_pos h1, h2] at ha
    cases ha
theorem scs_injB {t t' : ByteArray} (h : brk t.data.toList = t.size) (h' : brk t'.data.toList = t'.size) (e : scs t.data.toList = scs t'.data.toList) : t = t' := by
  have e1 := valid_of_brk (l := t.data.toList) (by rw [h, size_toList])
  have e2 := valid_of_brk (l := t'.data.toList) (by rw [h', size_toList])
  apply ByteArray.ext
  apply Array.ext'
  rw [e1, e2, e]
theorem op_ext {x y : Op5} (h1 : x.k = y.k) (h2 : x.t = y.t) (h3 : x.v = y.v) (h4 : x.c = y.c) (h5 : x.A = y.A) : x = y := by
  cases x; cases y; simp only at h1 h2 h3 h4 h5; subst h1 h2 h3 h4 h5; rfl
/-- An operation is told by its units. -/
theorem unitsO_inj {x y : Op5} (hx : Wel x) (hy : Wel y) (h : unitsO x = unitsO y) : x = y := by
  obtain ⟨u, us, hu⟩ := List.exists_cons_of_ne_nil (unitsO_ne hx)
  have m1 : u ∈ unitsO x := by rw [hu]; exact List.mem_cons_self ..
  have m2 : u ∈ unitsO y := by rw [← h]; exact m1
  unfold unitsO at h
  rcases unit_cases hx m1 with ⟨h1, r, rfl⟩ | ⟨h1, rfl⟩ | ⟨h1, rfl⟩ | ⟨h1, rfl⟩ <;> rcases unit_cases hy m2 with ⟨h2, r', e⟩ | ⟨h2, e⟩ | ⟨h2, e⟩ | ⟨h2, e⟩
  any_goals (simp at e; done)
  · rw [if_pos (Or.inl h1), if_pos (Or.inl h2)] at h
    simp only [U6.ins.injEq, Prod.mk.injEq] at e
    obtain ⟨i1, _⟩ := hx.resolve_right (by rintro (h | h) <;> omega)
    obtain ⟨i2, _⟩ := hy.resolve_right (by rintro (h | h) <;> omega)
    unfold cellsOf at h
    rw [if_pos h1, if_pos h2, mkC, mkC, ← e.2.2.2, List.map_map, List.map_map] at h
    have := (List.map_inj_right (fun (a b : Nat) (hab : (U6.ins ((a : Int), (⟨#[]⟩ : ByteArray), z0, x.A)) = U6.ins ((b : Int), ⟨#[]⟩, z0, x.A)) => by
      simp only [U6.ins.injEq, Prod.mk.injEq] at hab
      exact Int.ofNat_inj.1 hab.1)).1 h
    refine op_ext (by omega) (scs_injB i1.utf i2.utf this) ?_ (by rw [i1.count, i2.count]) e.2.2.2
    rw [(i1.kind.resolve_right (by omega)).2, (i2.kind.resolve_right (by omega)).2]
  · simp only [U6.ins.injEq, Prod.mk.injEq] at e
    obtain ⟨i1, _⟩ := hx.resolve_right (by rintro (h | h) <;> omega)
    obtain ⟨i2, _⟩ := hy.resolve_right (by rintro (h | h) <;> omega)
    exact op_ext (by omega) e.2.1 e.2.2.1 (by rw [i1.count, i2.count]) e.2.2.2
  · rw [if_neg (by omega), if_pos h1, if_neg (by omega), if_pos h2] at h
    have hl := congrArg List.length h
    simp only [List.length_replicate] at hl
    obtain ⟨_, a1, a2, a3, _⟩ := (hx.resolve_left (fun h => by omega)).resolve_right (fun h => by omega)
    obtain ⟨_, b1, b2, b3, _⟩ := (hy.resolve_left (fun h => by omega)).resolve_right (fun h => by omega)
    simp only [U6.keep.injEq] at e
    exact op_ext (by omega) (by rw [a1, b1]) (by rw [a2, b2]) (by omega) e
  · rw [if_neg (by omega), if_neg (by omega), if_neg (by omega), if_neg (by omega)] at h
    have hl := congrArg List.length h
    simp only [List.length_replicate] at hl
    obtain ⟨_, a1, a2, a3, a4⟩ := (hx.resolve_left (fun h => by omega)).resolve_left (fun h => by omega)
    obtain ⟨_, b1, b2, b3, b4⟩ := (hy.resolve_left (fun h => by omega)).resolve_left (fun h => by omega)
    exact op_ext (by omega) (by rw [a1, b1]) (by rw [a2, b2]) (by omega) (by rw [a4, b4])
theorem takeWhile_run {p : U6 → Bool} : ∀ {a b : List U6}, (∀ v ∈ a, p v = true) → (∀ v, b.head? = some v → p v = false) → (a ++ b).takeWhile p = a
  | [], [], _, _ => rfl
  | [], v :: b, _, h => by rw [List.nil_append, List.takeWhile_cons, h v rfl]; rfl
  | u :: a, b, h, hb => by
    rw [List.cons_append, List.takeWhile_cons, h u (List.mem_cons_self ..)]
    simp only [if_true]
    rw [takeWhile_run (fun v hv => h v (List.mem_cons_of_mem _ hv)) hb]
theorem head_units {y : Op5} {r : List Op5} (hy : Wel y) {v : U6} (h : (units (y :: r)).head? = some v) : v ∈ unitsO y := by
  obtain ⟨u, us, hu⟩ := List.exists_cons_of_ne_nil (unitsO_ne hy)
  have : (units (y :: r)).head? = some u := by show (unitsO y ++ units r).head? = _; rw [hu]; rfl
  rw [this] at h
  obtain rfl := Option.some.inj h
  rw [hu]; exact List.mem_cons_self ..
theorem chain_tail {x : Op5} {r : List Op5} (h : chainB (x :: r) = true) : chainB r = true := by
  cases r with
  | nil => rfl
  | cons y r => rw [chainB, Bool.and_eq_true] at h; exact h.2
/-- **Lists in which no two neighbours might be one are told by their units.** -/
theorem units_inj : ∀ {E F : List Op5}, (∀ o ∈ E, Wel o) → (∀ o ∈ F, Wel o) → chainB E = true → chainB F = true → units E = units F → E = F
  | [], [], _, _, _, _, _ => rfl
  | [], y :: s, _, hF, _, _, h => by
    exfalso
    have := unitsO_ne (hF y (List.mem_cons_self ..))
    have h : [] = unitsO y ++ units s := h
    exact this (List.append_eq_nil_iff.1 h.symm).1
  | x :: r, [], hE, _, _, _, h => by
    exfalso
    have := unitsO_ne (hE x (List.mem_cons_self ..))
    have h : unitsO x ++ units r = [] := h
    exact this (List.append_eq_nil_iff.1 h).1
  | x :: r, y :: s, hE, hF, cE, cF, h => by
    have wx := hE x (List.mem_cons_self ..)
    have wy := hF y (List.mem_cons_self ..)
    have h' : unitsO x ++ units r = unitsO y ++ units s := h
    have run : ∀ {z : Op5} {q : List Op5} (hz : Wel z) (hq : ∀ o ∈ q, Wel o) (hc : chainB (z :: q) = true) (hk : z.k ≠ 2) (u : U6) (hu : u ∈ unitsO z), (unitsO z ++ units q).takeWhile (fun v => decide (runB u v)) = unitsO z := fun {z q} hz hq hc hk u hu => by
      refine takeWhile_run (fun v hv => decide_eq_true (run_in hz hk hu hv)) (fun v hv => decide_eq_false ?_)
      cases q with
      | nil => cases hv
      | cons w q =>
        have ww := hq w (List.mem_cons_self ..)
        rw [chainB, Bool.and_eq_true] at hc
        exact run_apart hz ww hc.1 hu (head_units ww hv)
    obtain ⟨u, us, hu⟩ := List.exists_cons_of_ne_nil (unitsO_ne wx)
    obtain ⟨u', us', hu'⟩ := List.exists_cons_of_ne_nil (unitsO_ne wy)
    obtain rfl : u = u' := by rw [hu, hu'] at h'; exact (List.cons.inj h').1
    have m1 : u ∈ unitsO x := by rw [hu]; exact List.mem_cons_self ..
    have m2 : u ∈ unitsO y := by rw [hu']; exact List.mem_cons_self ..
    have e : unitsO x = unitsO y := by
      by_cases hx2 : x.k = 2
      · by_cases hy2 : y.k = 2
        · rcases unit_cases wx m1 with ⟨h1, _⟩ | ⟨h1, e1⟩ | ⟨h1, _⟩ | ⟨h1, _⟩
          any_goals omega
          rcases unit_cases wy m2 with ⟨h2, _⟩ | ⟨h2, e2⟩ | ⟨h2, _⟩ | ⟨h2, _⟩
          any_goals omega
          unfold unitsO
          rw [if_pos (Or.inr hx2), if_pos (Or.inr hy2), cells2 hx2, cells2 hy2, ← e1, ← e2]
        · exfalso
          have := run_in wy hy2 m2 m2
          rcases unit_cases wx m1 with ⟨h1, _⟩ | ⟨h1, e1⟩ | ⟨h1, _⟩ | ⟨h1, _⟩
          any_goals omega
          rw [e1] at this
          have h0 : (0 : Int) ≤ -1 := this.1
          omega
      · by_cases hy2 : y.k = 2
        · exfalso
          have := run_in wx hx2 m1 m1
          rcases unit_cases wy m2 with ⟨h1, _⟩ | ⟨h1, e1⟩ | ⟨h1, _⟩ | ⟨h1, _⟩
          any_goals omega
          rw [e1] at this
          have h0 : (0 : Int) ≤ -1 := this.1
          omega
        · rw [← run wx (fun o ho => hE o (List.mem_cons_of_mem _ ho)) cE hx2 u m1, h', run wy (fun o ho => hF o (List.mem_cons_of_mem _ ho)) cF hy2 u m2]
    rw [unitsO_inj wx wy e]
    rw [e] at h'
    rw [units_inj (fun o ho => hE o (List.mem_cons_of_mem _ ho)) (fun o ho => hF o (List.mem_cons_of_mem _ ho)) (chain_tail cE) (chain_tail cF) (List.append_cancel_left h')]
end Go.Proofs.YthfpmhnnjjikcabGreatDoor

/- The canonical list of operations: its units are theirs, each gap's inserts ahead of its deletes. -/
namespace Go.Proofs.YthfpmhnnjjikcabGreatDoor
open Go Go.RowKit Go.Lib
set_option linter.unusedVariables false
/-- Units, each gap's inserts ahead of its deletes (I, d: what the gap at hand has so far). -/
def nrm (I : List U6) (d : Nat) : List U6 → List U6
  | [] => I ++ List.replicate d .del
  | .keep A :: r => I ++ (List.replicate d .del ++ .keep A :: nrm [] 0 r)
  | .del :: r => nrm I (d + 1) r
  | .ins c :: r => nrm (I ++ [.ins c]) d r
theorem nrm_ins (l : List C5) : ∀ (I : List U6) (d : Nat) (r : List U6), nrm I d (l.map .ins ++ r) = nrm (I ++ l.map .ins) d r := by
  induction l with
  | nil => intro I d r; simp
  | cons c l ih =>
    intro I d r
    show nrm (I ++ [.ins c]) d (l.map .ins ++ r) = _
    rw [ih]; simp
theorem nrm_del (n : Nat) : ∀ (I : List U6) (d : Nat) (r : List U6), nrm I d (List.replicate n .del ++ r) = nrm I (d + n) r := by
  induction n with
  | zero => intro I d r; simp
  | succ n ih =>
    intro I d r
    rw [List.replicate_succ]
    show nrm I (d + 1) (List.replicate n .del ++ r) = _
    rw [ih, show d + 1 + n = d + (n + 1) by omega]
theorem nrm_keeps (A : List A2) : ∀ (n : Nat) (r : List U6), nrm [] 0 (List.replicate n (.keep A) ++ r) = List.replicate n (.keep A) ++ nrm [] 0 r
  | 0, r => by simp
  | n + 1, r => by
    rw [List.replicate_succ]
    show [] ++ (List.replicate 0 U6.del ++ .keep A :: nrm [] 0 (List.replicate n (.keep A) ++ r)) = _
    rw [nrm_keeps A n r]; rfl
theorem nrm_keep (A : List A2) (n : Nat) (hn : 1 ≤ n) (I : List U6) (d : Nat) (r : List U6) :
    nrm I d (List.replicate n (.keep A) ++ r) = I ++ (List.replicate d .del ++ (List.replicate n (.keep A) ++ nrm [] 0 r)) := by
  obtain ⟨m, rfl⟩ : ∃ m, n = m + 1 := ⟨n - 1, by omega⟩
  rw [List.replicate_succ]
  show I ++ (List.replicate d U6.del ++ .keep A :: nrm [] 0 (List.replicate m (.keep A) ++ r)) = _
  rw [nrm_keeps]; rfl
theorem unitsO_1 {o : Op5} (h : o.k = 1 ∨ o.k = 2) : unitsO o = (cellsOf o).map .ins := by unfold unitsO; rw [if_pos h]
theorem unitsO_3 {o : Op5} (h : o.k = 3) : unitsO o = List.replicate o.c.toNat (.keep o.A) := by unfold unitsO; rw [if_neg (by omega), if_pos h]
theorem unitsO_4 {o : Op5} (h : o.k = 4) : unitsO o = List.replicate o.c.toNat .del := by unfold unitsO; rw [if_neg (by omega), if_neg (by omega)]
theorem Wel.count {o : Op5} (h : Wel o) (hk : o.k = 3 ∨ o.k = 4) : 1 ≤ o.c := by
  rcases h with ⟨_, h⟩ | ⟨_, _, _, h, _⟩ | ⟨_, _, _, h, _⟩
  · omega
  · exact h
  · exact h

/-- Two operations as one. -/
def jnO (x o : Op5) : Op5 := ⟨x.k, x.t ++ o.t, x.v, x.c + o.c, x.A⟩
/-- An operation put behind others, joined with the last one where that may be. -/
def pushL (out : List Op5) (o : Op5) : List Op5 :=
  match out.getLast? with
  | none => [o]
  | some x => if x.k ≠ o.k ∨ o.k = 2 ∨ x.A ≠ o.A then out ++ [o] else out.dropLast ++ [jnO x o]
theorem push_nil (o : Op5) : pushL [] o = [o] := rfl
theorem push_apart {F : List Op5} {x o : Op5} (h : x.k ≠ o.k ∨ o.k = 2 ∨ x.A ≠ o.A) : pushL (F ++ [x]) o = F ++ [x] ++ [o] := by
  unfold pushL
  rw [List.getLast?_concat]
  exact if_pos h
theorem push_join {F : List Op5} {x o : Op5} (h : ¬ (x.k ≠ o.k ∨ o.k = 2 ∨ x.A ≠ o.A)) : pushL (F ++ [x]) o = F ++ [jnO x o] := by
  unfold pushL
  rw [List.getLast?_concat, List.dropLast_concat]
  exact if_neg h
theorem join_wel {x o : Op5} (hx : Wel x) (ho : Wel o) (hk : x.k = o.k) (h2 : o.k ≠ 2) (hA : x.A = o.A) : Wel (jnO x o) ∧ unitsO (jnO x o) = unitsO x ++ unitsO o := by
  have e0 : (⟨#[]⟩ : ByteArray) ++ ⟨#[]⟩ = ⟨#[]⟩ := rfl
  rcases hx with ⟨i1, k1⟩ | ⟨k1, a1, a2, a3, a4⟩ | ⟨k1, a1, a2, a3, a4⟩
  · have k1 : x.k = 1 := by omega
    obtain ⟨i2, _⟩ := ho.resolve_right (by rintro (h | h) <;> omega)
    have hs : (x.t ++ o.t).size = x.t.size + o.t.size := ByteArray.size_append
    have hc := scs_cat (a := x.t.data.toList) (b := o.t.data.toList) (by rw [i1.utf, size_toList]) (by rw [i2.utf, size_toList])
    refine ⟨Or.inl ⟨⟨Or.inl ⟨k1, (i1.kind.resolve_right (by omega)).2⟩, size_isEmp ?_, ?_, ?_, i1.val, i1.set⟩, Or.inl k1⟩, ?_⟩
    · have := isEmp_size i1.full
      show 0 < (x.t ++ o.t).size
      omega
    · show x.c + o.c = 0
      rw [i1.count, i2.count]; rfl
    · show brk (x.t ++ o.t).data.toList = (x.t ++ o.t).size
      rw [cat_list, hc.2, List.length_append, size_toList, size_toList, hs]
    · rw [unitsO_1 (show (jnO x o).k = 1 ∨ (jnO x o).k = 2 from Or.inl k1), unitsO_1 (Or.inl k1), unitsO_1 (Or.inl (by omega))]
      unfold cellsOf
      rw [if_pos (show (jnO x o).k = 1 from k1), if_pos k1, if_pos (show o.k = 1 by omega), ← hA]
      show (mkC x.A (scs (x.t ++ o.t).data.toList)).map U6.ins = _
      rw [cat_list, hc.1]
      simp [mkC]
  · obtain ⟨_, b1, b2, b3, b4⟩ := (ho.resolve_left (fun h => by omega)).resolve_right (fun h => by omega)
    refine ⟨Or.inr (Or.inl ⟨k1, by show x.t ++ o.t = _; rw [a1, b1, e0], a2, by show 1 ≤ x.c + o.c; omega, a4⟩), ?_⟩
    rw [unitsO_3 (show (jnO x o).k = 3 from k1), unitsO_3 k1, unitsO_3 (by omega), ← hA]
    show List.replicate (x.c + o.c).toNat (U6.keep x.A) = _
    rw [show (x.c + o.c).toNat = x.c.toNat + o.c.toNat by omega, List.replicate_append_replicate.symm]
  · obtain ⟨_, b1, b2, b3, b4⟩ := (ho.resolve_left (fun h => by omega)).resolve_left (fun h => by omega)
    refine ⟨Or.inr (Or.inr ⟨k1, by show x.t ++ o.t = _; rw [a1, b1, e0], a2, by show 1 ≤ x.c + o.c; omega, a4⟩), ?_⟩
    rw [unitsO_4 (show (jnO x o).k = 4 from k1), unitsO_4 k1, unitsO_4 (by omega)]
    show List.replicate (x.c + o.c).toNat U6.del = _
    rw [show (x.c + o.c).toNat = x.c.toNat + o.c.toNat by omega, List.replicate_append_replicate.symm]
theorem chain_snoc : ∀ (E : List Op5) (x o : Op5), chainB (E ++ [x] ++ [o]) = (chainB (E ++ [x]) && apartB x o)
  | [], x, o => by simp [chainB]
  | [y], x, o => by simp [chainB]
  | y :: z :: r, x, o => by
    have := chain_snoc (z :: r) x o
    simp only [List.cons_append, chainB] at this ⊢
    rw [this, Bool.and_assoc]
theorem chain_last : ∀ (E : List Op5) {x y : Op5}, x.k = y.k → x.A = y.A → chainB (E ++ [x]) = chainB (E ++ [y])
  | [], x, y, _, _ => rfl
  | [z], x, y, hk, hA => by simp [chainB, apartB, hk, hA]
  | z :: u :: r, x, y, hk, hA => by
    have := chain_last (u :: r) hk hA
    simp only [List.cons_append, chainB] at this ⊢
    rw [this]
/-- A list that no two neighbours of which might be one, well formed; the kind of its last one. -/
structure Chn (E : List Op5) (P : Int → Prop) : Prop where
  wel : ∀ o ∈ E, Wel o
  chain : chainB E = true
  last : ∀ F x, E = F ++ [x] → P x.k
theorem wel_snoc {F : List Op5} {x : Op5} : (∀ o ∈ F ++ [x], Wel o) ↔ (∀ o ∈ F, Wel o) ∧ Wel x := by
  constructor
  · intro h; exact ⟨fun o ho => h o (List.mem_append_left _ ho), h x (List.mem_append_right _ (List.mem_singleton.2 rfl))⟩
  · rintro ⟨h1, h2⟩ o ho
    rcases List.mem_append.1 ho with h | h
    · exact h1 o h
    · rw [List.mem_singleton.1 h]; exact h2
theorem last_snoc {P : Int → Prop} {G : List Op5} {z : Op5} (h : P z.k) : ∀ F x, G ++ [z] = F ++ [x] → P x.k := fun F x e => by
  have := List.append_inj_right' e rfl
  rw [← List.cons.inj this |>.1]; exact h
theorem push_chn {out : List Op5} {o : Op5} {P : Int → Prop} (h : Chn out P) (ho : Wel o) (hP : ∀ k, P k → k = 4 → o.k = 3 ∨ o.k = 4) :
    Chn (pushL out o) (fun k => k = o.k) ∧ units (pushL out o) = units out ++ unitsO o := by
  rcases List.eq_nil_or_concat out with rfl | ⟨F, x, rfl⟩
  · rw [push_nil]
    exact ⟨⟨fun y hy => by rw [List.mem_singleton.1 hy]; exact ho, rfl, last_snoc (P := fun k => k = o.k) (G := []) (z := o) rfl⟩, by rw [units_one]; rfl⟩
  · rw [List.concat_eq_append] at h ⊢
    obtain ⟨w1, w2⟩ := wel_snoc.1 h.wel
    have hl := h.last F x rfl
    by_cases hj : x.k ≠ o.k ∨ o.k = 2 ∨ x.A ≠ o.A
    · rw [push_apart hj]
      refine ⟨⟨wel_snoc.2 ⟨h.wel, ho⟩, ?_, last_snoc (P := fun k => k = o.k) (z := o) rfl⟩, by rw [units_append (F ++ [x]), units_one]⟩
      rw [chain_snoc, h.chain]
      unfold apartB
      by_cases h4 : x.k = 4
      · rw [if_pos h4]
        rcases hP _ hl h4 with h3 | h3
        · simp [h3]
        · exfalso
          rcases hj with hj | hj | hj
          · omega
          · omega
          · obtain ⟨_, _, _, _, a⟩ := (w2.resolve_left (fun h => by omega)).resolve_left (fun h => by omega)
            obtain ⟨_, _, _, _, b⟩ := (ho.resolve_left (fun h => by omega)).resolve_left (fun h => by omega)
            exact hj (by rw [a, b])
      · rw [if_neg h4]
        by_cases h5 : x.k ≠ o.k ∨ x.k = 2
        · rw [if_pos h5]; rfl
        · rw [if_neg h5]
          have : x.A ≠ o.A := by
            rcases hj with hj | hj | hj
            · exact absurd (Or.inl hj) h5
            · exact absurd (Or.inr (by omega)) h5
            · exact hj
          simp [this]
    · rw [push_join hj]
      have hk : x.k = o.k := Decidable.byContradiction fun e => hj (Or.inl e)
      have h2 : o.k ≠ 2 := fun e => hj (Or.inr (Or.inl e))
      have hA : x.A = o.A := Decidable.byContradiction fun e => hj (Or.inr (Or.inr e))
      obtain ⟨j1, j2⟩ := join_wel w2 ho hk h2 hA
      refine ⟨⟨wel_snoc.2 ⟨w1, j1⟩, ?_, last_snoc (P := fun k => k = o.k) (z := jnO x o) (show (jnO x o).k = o.k from hk)⟩, ?_⟩
      · rw [chain_last F (x := jnO x o) (y := x) rfl rfl]; exact h.chain
      · rw [units_append, units_one, j2, units_append, units_one, List.append_assoc]

/-- A delete. -/
def delO (n : Int) : Op5 := ⟨4, ⟨#[]⟩, z0, n, []⟩
theorem delO_wel {n : Int} (h : 1 ≤ n) : Wel (delO n) := Or.inr (Or.inr ⟨rfl, rfl, rfl, h, rfl⟩)
/-- What a gap has, put behind. -/
def flushL (out gap : List Op5) (g : Int) : List Op5 := if 0 < g then pushL (gap.foldl pushL out) (delO g) else gap.foldl pushL out
/-- One operation gathered: what is whole, the gap's inserts, how many cells go there. -/
def stepC (s : List Op5 × List Op5 × Int) (o : Op5) : List Op5 × List Op5 × Int :=
  if o.k = 1 ∨ o.k = 2 then (s.1, s.2.1 ++ [o], s.2.2) else if o.k = 4 then (s.1, s.2.1, s.2.2 + o.c) else (pushL (flushL s.1 s.2.1 s.2.2) o, [], 0)
def runC (E : List Op5) : List Op5 × List Op5 × Int := E.foldl stepC ([], [], 0)
/-- Without a plain retain at the end. -/
def trimL (out : List Op5) : List Op5 := match out.getLast? with | some o => if plainR o then out.dropLast else out | none => out
/-- The canonical list of operations. -/
def canonL (E : List Op5) : List Op5 := trimL (flushL (runC E).1 (runC E).2.1 (runC E).2.2)
theorem gap_chn : ∀ {gap out : List Op5}, Chn out (fun k => k ≠ 4) → (∀ o ∈ gap, Wel o ∧ (o.k = 1 ∨ o.k = 2)) →
    Chn (gap.foldl pushL out) (fun k => k ≠ 4) ∧ units (gap.foldl pushL out) = units out ++ units gap
  | [], out, h, _ => ⟨h, by show _ = _ ++ []; rw [List.append_nil]; rfl⟩
  | o :: r, out, h, hg => by
    obtain ⟨ho, hk⟩ := hg o (List.mem_cons_self ..)
    obtain ⟨p1, p2⟩ := push_chn h ho (fun k h4 e => absurd e h4)
    have p1' : Chn (pushL out o) (fun k => k ≠ 4) := ⟨p1.wel, p1.chain, fun F x e => by have := p1.last F x e; omega⟩
    obtain ⟨q1, q2⟩ := gap_chn p1' (fun x hx => hg x (List.mem_cons_of_mem _ hx))
    refine ⟨q1, ?_⟩
    show units (r.foldl pushL (pushL out o)) = _
    rw [q2, p2, List.append_assoc]; rfl
theorem flush_chn {out gap : List Op5} {g : Int} (h : Chn out (fun k => k = 3)) (hg : ∀ o ∈ gap, Wel o ∧ (o.k = 1 ∨ o.k = 2)) :
    Chn (flushL out gap g) (fun _ => True) ∧ units (flushL out gap g) = units out ++ (units gap ++ List.replicate g.toNat .del) := by
  obtain ⟨p1, p2⟩ := gap_chn (⟨h.wel, h.chain, fun F x e => by have := h.last F x e; omega⟩ : Chn out (fun k => k ≠ 4)) hg
  unfold flushL
  split
  · rename_i h0
    obtain ⟨q1, q2⟩ := push_chn p1 (delO_wel h0) (fun k h4 e => absurd e h4)
    refine ⟨⟨q1.wel, q1.chain, fun _ _ _ => trivial⟩, ?_⟩
    rw [q2, p2, List.append_assoc, unitsO_4 (show (delO g).k = 4 from rfl)]; rfl
  · rename_i h0
    refine ⟨⟨p1.wel, p1.chain, fun _ _ _ => trivial⟩, ?_⟩
    rw [p2, show g.toNat = 0 by omega]
    simp
/-- What is so between two operations. -/
structure Run (E : List Op5) (s : List Op5 × List Op5 × Int) : Prop where
  out : Chn s.1 (fun k => k = 3)
  gap : ∀ o ∈ s.2.1, Wel o ∧ (o.k = 1 ∨ o.k = 2)
  gone : 0 ≤ s.2.2
  same : ∀ r, nrm [] 0 (units E ++ r) = units s.1 ++ nrm (units s.2.1) s.2.2.toNat r
theorem run_step {E : List Op5} {s : List Op5 × List Op5 × Int} {o : Op5} (h : Run E s) (ho : Wel o) : Run (E ++ [o]) (stepC s o) := by
  have hs : ∀ r, nrm [] 0 (units (E ++ [o]) ++ r) = units s.1 ++ nrm (units s.2.1) s.2.2.toNat (unitsO o ++ r) := fun r => by
    rw [units_append, units_one, List.append_assoc, h.same]
  unfold stepC
  rcases ho.kinds with hk | hk | hk | hk
  · rw [if_pos (Or.inl hk)]
    refine ⟨h.out, fun x hx => ?_, h.gone, fun r => ?_⟩
    · rcases List.mem_append.1 hx with hx | hx
      · exact h.gap x hx
      · rw [List.mem_singleton.1 hx]; exact ⟨ho, Or.inl hk⟩
    · rw [hs, unitsO_1 (Or.inl hk), nrm_ins, units_append, units_one, unitsO_1 (Or.inl hk)]
  · rw [if_pos (Or.inr hk)]
    refine ⟨h.out, fun x hx => ?_, h.gone, fun r => ?_⟩
    · rcases List.mem_append.1 hx with hx | hx
      · exact h.gap x hx
      · rw [List.mem_singleton.1 hx]; exact ⟨ho, Or.inr hk⟩
    · rw [hs, unitsO_1 (Or.inr hk), nrm_ins, units_append, units_one, unitsO_1 (Or.inr hk)]
  · rw [if_neg (by omega), if_neg (by omega)]
    obtain ⟨f1, f2⟩ := flush_chn (g := s.2.2) h.out h.gap
    obtain ⟨p1, p2⟩ := push_chn f1 ho (fun k _ _ => Or.inl hk)
    refine ⟨⟨p1.wel, p1.chain, fun F x e => by have := p1.last F x e; omega⟩, fun x hx => (by cases hx), Int.le_refl 0, fun r => ?_⟩
    have hc := ho.count (Or.inl hk)
    rw [hs, unitsO_3 hk, nrm_keep _ _ (by omega)]
    show _ = units (pushL _ o) ++ nrm [] 0 r
    rw [p2, f2, unitsO_3 hk]
    simp only [List.append_assoc]
  · rw [if_neg (by omega), if_pos hk]
    have hc := ho.count (Or.inr hk)
    refine ⟨h.out, h.gap, ?_, fun r => ?_⟩
    · have := h.gone
      show 0 ≤ s.2.2 + o.c
      omega
    · have := h.gone
      rw [hs, unitsO_4 hk, nrm_del]
      show _ = units s.1 ++ nrm (units s.2.1) (s.2.2 + o.c).toNat r
      rw [show (s.2.2 + o.c).toNat = s.2.2.toNat + o.c.toNat by omega]
theorem run_all : ∀ (F E : List Op5) (s : List Op5 × List Op5 × Int), Run E s → (∀ o ∈ F, Wel o) → Run (E ++ F) (F.foldl stepC s)
  | [], E, s, h, _ => by rw [List.append_nil]; exact h
  | o :: r, E, s, h, hF => by
    have := run_all r (E ++ [o]) (stepC s o) (run_step h (hF o (List.mem_cons_self ..))) (fun x hx => hF x (List.mem_cons_of_mem _ hx))
    rw [List.append_assoc] at this
    exact this
theorem run_of {E : List Op5} (h : ∀ o ∈ E, Wel o) : Run E (runC E) := by
  have := run_all E [] ([], [], 0) ⟨⟨fun o ho => (by cases ho), rfl, fun F x e => (by simp at e)⟩, fun o ho => (by cases ho), Int.le_refl 0, fun r => rfl⟩ h
  rw [List.nil_append] at this
  exact this

/-- Is a unit kept as it is? -/
def plainU : U6 → Bool
  | .keep A => A.isEmpty
  | _ => false
/-- Units without those at the end that are kept as they are. -/
def stripU (U : List U6) : List U6 := (U.reverse.dropWhile plainU).reverse
theorem strip_end {U : List U6} {u : U6} (h : plainU u = false) : stripU (U ++ [u]) = U ++ [u] := by
  unfold stripU
  rw [List.reverse_append]
  show ((u :: U.reverse).dropWhile plainU).reverse = _
  rw [List.dropWhile_cons, h]
  simp
theorem strip_plain {u : U6} (h : plainU u = true) : ∀ (n : Nat) (U : List U6), stripU (U ++ List.replicate n u) = stripU U
  | 0, U => by simp
  | n + 1, U => by
    rw [List.replicate_succ', ← List.append_assoc]
    unfold stripU
    rw [List.reverse_append]
    show ((u :: (U ++ List.replicate n u).reverse).dropWhile plainU).reverse = _
    rw [List.dropWhile_cons, h]
    exact strip_plain h n U
theorem units_last {x : Op5} (h : Wel x) (hp : plainR x = false) : ∃ us u, unitsO x = us ++ [u] ∧ plainU u = false := by
  rcases List.eq_nil_or_concat (unitsO x) with he | ⟨us, u, he⟩
  · exact absurd he (unitsO_ne h)
  · rw [List.concat_eq_append] at he
    refine ⟨us, u, he, ?_⟩
    have hu : u ∈ unitsO x := by rw [he]; simp
    rcases unit_cases h hu with ⟨h1, r, rfl⟩ | ⟨h1, rfl⟩ | ⟨h1, rfl⟩ | ⟨h1, rfl⟩
    · rfl
    · rfl
    · unfold plainR at hp
      rw [h1] at hp
      simpa [plainU] using hp
    · rfl
theorem strip_id {F : List Op5} {x : Op5} (h : Wel x) (hp : plainR x = false) : stripU (units (F ++ [x])) = units (F ++ [x]) := by
  obtain ⟨us, u, h1, h2⟩ := units_last h hp
  rw [units_append, units_one, h1, ← List.append_assoc]
  exact strip_end h2
theorem lastP_snoc (F : List Op5) (x : Op5) : lastP (F ++ [x]) = !plainR x := by unfold lastP; rw [List.getLast?_concat]
theorem strip_can {E : List Op5} (hw : ∀ o ∈ E, Wel o) (hl : lastP E = true) : stripU (units E) = units E := by
  rcases List.eq_nil_or_concat E with rfl | ⟨F, x, rfl⟩
  · rfl
  · rw [List.concat_eq_append] at *
    rw [lastP_snoc] at hl
    exact strip_id (wel_snoc.1 hw).2 (by simpa using hl)
theorem chain_front {F : List Op5} {x : Op5} (h : chainB (F ++ [x]) = true) : chainB F = true := by
  rcases List.eq_nil_or_concat F with rfl | ⟨G, y, rfl⟩
  · rfl
  · rw [List.concat_eq_append] at *
    rw [chain_snoc, Bool.and_eq_true] at h
    exact h.1
theorem trim_chn {E : List Op5} {P : Int → Prop} (h : Chn E P) : (∀ o ∈ trimL E, Wel o) ∧ chainB (trimL E) = true ∧ lastP (trimL E) = true ∧ units (trimL E) = stripU (units E) := by
  rcases List.eq_nil_or_concat E with rfl | ⟨F, x, rfl⟩
  · exact ⟨h.wel, h.chain, rfl, rfl⟩
  · rw [List.concat_eq_append] at *
    obtain ⟨w1, w2⟩ := wel_snoc.1 h.wel
    unfold trimL
    rw [List.getLast?_concat]
    simp only [List.dropLast_concat]
    cases hp : plainR x with
    | false =>
      simp only [Bool.false_eq_true, if_false]
      exact ⟨h.wel, h.chain, by rw [lastP_snoc, hp]; rfl, (strip_id w2 hp).symm⟩
    | true =>
      simp only [if_true]
      have hx : x.k = 3 ∧ x.A = [] := by
        unfold plainR at hp
        simpa using hp
      have hl : lastP F = true := by
        rcases List.eq_nil_or_concat F with rfl | ⟨G, y, rfl⟩
        · rfl
        · rw [List.concat_eq_append] at *
          have := h.chain
          rw [chain_snoc, Bool.and_eq_true] at this
          have ha := this.2
          rw [lastP_snoc]
          cases hq : plainR y with
          | false => rfl
          | true =>
            exfalso
            have hy : y.k = 3 ∧ y.A = [] := by unfold plainR at hq; simpa using hq
            unfold apartB at ha
            rw [if_neg (by omega), if_neg (by omega), hy.2, hx.2] at ha
            simp at ha
      refine ⟨w1, chain_front h.chain, hl, ?_⟩
      rw [units_append, units_one, unitsO_3 hx.1, hx.2, strip_plain rfl]
      exact (strip_can w1 hl).symm
/-- **What the canonical list is: its neighbours are apart, no plain retain ends it, and its units are those of the operations, put in order.** -/
theorem canon_spec {E : List Op5} (h : ∀ o ∈ E, Wel o) : (∀ o ∈ canonL E, Wel o) ∧ chainB (canonL E) = true ∧ lastP (canonL E) = true ∧ units (canonL E) = stripU (nrm [] 0 (units E)) := by
  have r := run_of h
  obtain ⟨f1, f2⟩ := flush_chn (g := (runC E).2.2) r.out r.gap
  obtain ⟨t1, t2, t3, t4⟩ := trim_chn f1
  refine ⟨t1, t2, t3, ?_⟩
  have e := r.same []
  rw [List.append_nil] at e
  show units (trimL _) = _
  rw [t4, f2, e]; rfl
end Go.Proofs.YthfpmhnnjjikcabGreatDoor

/- Deltas unit by unit: their edits of cells; their lengths. -/
namespace Go.Proofs.YthfpmhnnjjikcabGreatDoor
open Go Go.RowKit Go.Lib
set_option linter.unusedVariables false
theorem mem_tw {p : U6 → Bool} {u : U6} : ∀ {l : List U6}, u ∈ l.takeWhile p → p u = true
  | [], h => by cases h
  | x :: l, h => by
    rw [List.takeWhile_cons] at h
    split at h
    · rename_i hx
      rcases List.mem_cons.1 h with rfl | h
      · exact hx
      · exact mem_tw h
    · cases h
theorem strip_cut : ∀ U : List U6, ∃ V, U = stripU U ++ V ∧ ∀ u ∈ V, plainU u = true := fun U => by
  refine ⟨(U.reverse.takeWhile plainU).reverse, ?_, fun u hu => ?_⟩
  · unfold stripU
    rw [← List.reverse_append, List.takeWhile_append_dropWhile, List.reverse_reverse]
  · exact mem_tw (List.mem_reverse.1 hu)
/-! Lengths. -/
def baseU (U : List U6) : Nat := U.countP fun u => match u with | .ins _ => false | _ => true
def resU (U : List U6) : Nat := U.countP fun u => match u with | .del => false | _ => true
def sumB (E : List Op5) : Int := (E.map baseO).sum
def sumR (E : List Op5) : Int := (E.map resO).sum
theorem len5_units {o : Op5} (h : Wel o) : len5 o = ((unitsO o).length : Int) := by
  unfold len5
  rcases h.kinds with hk | hk | hk | hk
  · rw [if_pos (Or.inl hk), unitsO_1 (Or.inl hk), List.length_map, cellsOf_len]
  · rw [if_pos (Or.inr hk), unitsO_1 (Or.inr hk), List.length_map, cellsOf_len]
  · have := h.count (Or.inl hk)
    rw [if_neg (by omega), unitsO_3 hk, List.length_replicate]; omega
  · have := h.count (Or.inr hk)
    rw [if_neg (by omega), unitsO_4 hk, List.length_replicate]; omega
theorem countP_all {p : U6 → Bool} {U : List U6} (h : ∀ u ∈ U, p u = true) : U.countP p = U.length := by
  rw [List.countP_eq_length]; exact h
theorem countP_none {p : U6 → Bool} {U : List U6} (h : ∀ u ∈ U, p u = false) : U.countP p = 0 := by
  rw [List.countP_eq_zero]; intro u hu; rw [h u hu]; simp
theorem base_units {o : Op5} (h : Wel o) : baseO o = (baseU (unitsO o) : Int) := by
  unfold baseO baseU
  rcases h.kinds with hk | hk | hk | hk
  · rw [if_neg (by omega), countP_none]; rfl
    intro u hu
    rcases unit_cases h hu with ⟨_, r, rfl⟩ | ⟨_, rfl⟩ | ⟨h2, _⟩ | ⟨h2, _⟩ <;> first | rfl | omega
  · rw [if_neg (by omega), countP_none]; rfl
    intro u hu
    rcases unit_cases h hu with ⟨_, r, rfl⟩ | ⟨_, rfl⟩ | ⟨h2, _⟩ | ⟨h2, _⟩ <;> first | rfl | omega
  · rw [if_pos (Or.inl hk), countP_all, len5_units h]
    intro u hu
    rcases unit_cases h hu with ⟨h2, _⟩ | ⟨h2, _⟩ | ⟨_, rfl⟩ | ⟨_, rfl⟩ <;> first | rfl | omega
  · rw [if_pos (Or.inr hk), countP_all, len5_units h]
    intro u hu
    rcases unit_cases h hu with ⟨h2, _⟩ | ⟨h2, _⟩ | ⟨_, rfl⟩ | ⟨_, rfl⟩ <;> first | rfl | omega
theorem res_units {o : Op5} (h : Wel o) : resO o = (resU (unitsO o) : Int) := by
  unfold resO resU
  rcases h.kinds with hk | hk | hk | hk
  · rw [if_neg (by omega), countP_all, len5_units h]
    intro u hu
    rcases unit_cases h hu with ⟨_, r, rfl⟩ | ⟨_, rfl⟩ | ⟨h2, _⟩ | ⟨h2, _⟩ <;> first | rfl | omega
  · rw [if_neg (by omega), countP_all, len5_units h]
    intro u hu
    rcases unit_cases h hu with ⟨_, r, rfl⟩ | ⟨_, rfl⟩ | ⟨h2, _⟩ | ⟨h2, _⟩ <;> first | rfl | omega
  · rw [if_neg (by omega), countP_all, len5_units h]
    intro u hu
    rcases unit_cases h hu with ⟨h2, _⟩ | ⟨h2, _⟩ | ⟨_, rfl⟩ | ⟨h2, rfl⟩ <;> first | rfl | omega
  · rw [if_pos hk, countP_none]; rfl
    intro u hu
    rcases unit_cases h hu with ⟨h2, _⟩ | ⟨h2, _⟩ | ⟨h2, rfl⟩ | ⟨_, rfl⟩ <;> first | rfl | omega
theorem sumB_units : ∀ {E : List Op5}, (∀ o ∈ E, Wel o) → sumB E = (baseU (units E) : Int)
  | [], _ => rfl
  | o :: r, h => by
    show baseO o + sumB r = ((unitsO o ++ units r).countP _ : Nat)
    rw [List.countP_append, base_units (h o (List.mem_cons_self ..)), sumB_units fun x hx => h x (List.mem_cons_of_mem _ hx)]
    simp [baseU]
theorem sumR_units : ∀ {E : List Op5}, (∀ o ∈ E, Wel o) → sumR E = (resU (units E) : Int)
  | [], _ => rfl
  | o :: r, h => by
    show resO o + sumR r = ((unitsO o ++ units r).countP _ : Nat)
    rw [List.countP_append, res_units (h o (List.mem_cons_self ..)), sumR_units fun x hx => h x (List.mem_cons_of_mem _ hx)]
    simp [resU]
theorem nrm_perm : ∀ (U I : List U6) (d : Nat), (nrm I d U).Perm (I ++ (List.replicate d .del ++ U))
  | [], I, d => by rw [nrm, List.append_nil]
  | .keep A :: r, I, d => by
    rw [nrm]
    refine List.Perm.append_left _ (List.Perm.append_left _ (List.Perm.cons _ ?_))
    exact nrm_perm r [] 0
  | .del :: r, I, d => by
    rw [nrm]
    refine (nrm_perm r I (d + 1)).trans ?_
    rw [List.replicate_succ', List.append_assoc]; exact List.Perm.refl _
  | .ins c :: r, I, d => by
    rw [nrm]
    refine (nrm_perm r (I ++ [.ins c]) d).trans ?_
    rw [List.append_assoc]
    exact List.Perm.append_left _ (show (U6.ins c :: (List.replicate d U6.del ++ r)).Perm (List.replicate d U6.del ++ U6.ins c :: r) from List.perm_middle.symm)
theorem strip_count (p : U6 → Bool) (U : List U6) : (stripU U).countP p ≤ U.countP p := by
  obtain ⟨V, h1, _⟩ := strip_cut U
  conv => rhs; rw [h1]
  rw [List.countP_append]
  omega
/-- The canonical list is no longer than the operations. -/
theorem canon_sums {E : List Op5} (h : ∀ o ∈ E, Wel o) : sumB (canonL E) ≤ sumB E ∧ sumR (canonL E) ≤ sumR E := by
  obtain ⟨t1, _, _, t4⟩ := canon_spec h
  rw [sumB_units t1, sumR_units t1, sumB_units h, sumR_units h, t4]
  have hp := nrm_perm (units E) [] 0
  have e1 : baseU (nrm [] 0 (units E)) = baseU (units E) := hp.countP_eq _
  have e2 : resU (nrm [] 0 (units E)) = resU (units E) := hp.countP_eq _
  have s1 : baseU (stripU (nrm [] 0 (units E))) ≤ _ := strip_count _ _
  have s2 : resU (stripU (nrm [] 0 (units E))) ≤ _ := strip_count _ _
  have s1 : baseU (stripU (nrm [] 0 (units E))) ≤ baseU (nrm [] 0 (units E)) := s1
  have s2 : resU (stripU (nrm [] 0 (units E))) ≤ resU (nrm [] 0 (units E)) := s2
  omega
theorem base_nn {o : Op5} (h : Wel o) : 0 ≤ baseO o := by rw [base_units h]; omega
theorem res_nn {o : Op5} (h : Wel o) : 0 ≤ resO o := by rw [res_units h]; omega
theorem sums_nn : ∀ {E : List Op5}, (∀ o ∈ E, Wel o) → 0 ≤ sumB E ∧ 0 ≤ sumR E := fun {E} h => by rw [sumB_units h, sumR_units h]; omega
theorem mem_sums : ∀ {E : List Op5} {o : Op5}, (∀ x ∈ E, Wel x) → o ∈ E → baseO o ≤ sumB E ∧ resO o ≤ sumR E
  | x :: E, o, h, ho => by
    have hE : ∀ y ∈ E, Wel y := fun y hy => h y (List.mem_cons_of_mem _ hy)
    have n := sums_nn hE
    have hx := h x (List.mem_cons_self ..)
    have n1 := base_nn hx
    have n2 := res_nn hx
    have e1 : sumB (x :: E) = baseO x + sumB E := rfl
    have e2 : sumR (x :: E) = resO x + sumR E := rfl
    rw [e1, e2]
    rcases List.mem_cons.1 ho with rfl | ho
    · omega
    · have := mem_sums hE ho
      omega
theorem wel_good {E : List Op5} (h : ∀ o ∈ E, Wel o) (hb : sumB E ≤ 1099511627776) : ∀ o ∈ E, opE o = 0 := fun o ho => by
  refine (h o ho).good ?_
  have hw := h o ho
  have m := (mem_sums h ho).1
  rcases hw.kinds with hk | hk | hk | hk
  · obtain ⟨i, _⟩ := hw.resolve_right (by rintro (h | h) <;> omega)
    rw [i.count]; decide
  · obtain ⟨i, _⟩ := hw.resolve_right (by rintro (h | h) <;> omega)
    rw [i.count]; decide
  · unfold baseO len5 at m
    rw [if_pos (Or.inl hk), if_neg (by omega)] at m
    omega
  · unfold baseO len5 at m
    rw [if_pos (Or.inr hk), if_neg (by omega)] at m
    omega
end Go.Proofs.YthfpmhnnjjikcabGreatDoor

/- The pieces of a cut text, purely. -/
namespace Go.Proofs.YthfpmhnnjjikcabGreatDoor
open Go Go.RowKit Go.Lib
set_option linter.unusedVariables false
/-- The two pieces of an insert. -/
def headO (o : Op5) (m : Nat) : Op5 := ⟨1, o.t.extract 0 (pos (scs o.t.data.toList) m), z0, 0, o.A⟩
def tailO (o : Op5) (m : Nat) : Op5 := ⟨1, o.t.extract (pos (scs o.t.data.toList) m) o.t.size, z0, 0, o.A⟩

theorem scs_of {rs : List Nat} (h : ∀ r ∈ rs, scal r) : scs (encs rs) = rs ∧ brk (encs rs) = (encs rs).length := by
  have h1 := scs_eq (t := []) h (Or.inl rfl)
  have h2 := brk_eq (t := []) h (Or.inl rfl)
  rw [List.append_nil] at h1 h2
  exact ⟨h1, h2⟩
theorem head_list {o : Op5} (h : brk o.t.data.toList = o.t.size) (m : Nat) : (headO o m).t.data.toList = encs ((scs o.t.data.toList).take m) := by
  obtain ⟨_, h2, _⟩ := valid_text o.t h
  obtain ⟨rs, hrs⟩ : ∃ rs, scs o.t.data.toList = rs := ⟨_, rfl⟩
  show (o.t.extract 0 _).data.toList = _
  rw [hrs] at h2 ⊢
  rw [extract_of o.t (encs (rs.take m)) 0 _ (by rw [h2, List.drop_zero, Nat.sub_zero, take_pos])]
theorem tail_list {o : Op5} (h : brk o.t.data.toList = o.t.size) (m : Nat) : (tailO o m).t.data.toList = encs ((scs o.t.data.toList).drop m) := by
  obtain ⟨_, h2, _⟩ := valid_text o.t h
  have hs := size_toList o.t
  obtain ⟨rs, hrs⟩ : ∃ rs, scs o.t.data.toList = rs := ⟨_, rfl⟩
  show (o.t.extract _ _).data.toList = _
  rw [hrs] at h2 ⊢
  rw [extract_of o.t (encs (rs.drop m)) _ _ (by
    rw [List.take_of_length_le (by rw [List.length_drop, hs]; exact Nat.le_refl _), h2, drop_pos])]
theorem encs_len0 {rs : List Nat} (h : ∀ r ∈ rs, scal r) : rs.length ≤ (encs rs).length := by
  induction rs with
  | nil => exact Nat.le_refl _
  | cons x rs ih =>
    have := enc_pos (h x (by simp))
    have := ih fun r hr => h r (by simp [hr])
    simp only [encs, List.length_append, List.length_cons]
    omega
/-- A text of scalars, one at least, is an insert. -/
theorem ins_list {o o' : Op5} {rs : List Nat} (h : Ins o) (hs : ∀ r ∈ rs, scal r) (h0 : 0 < rs.length) (hk : o'.k = 1) (hv : o'.v = z0) (hc : o'.c = 0) (hA : o'.A = o.A) (ht : o'.t.data.toList = encs rs) : Ins o' ∧ lenO o' = rs.length := by
  obtain ⟨e1, e2⟩ := scs_of hs
  have hl := encs_len0 hs
  have hz := size_toList o'.t
  rw [ht] at hz
  refine ⟨⟨Or.inl ⟨hk, hv⟩, size_isEmp (by omega), hc, by rw [ht, e2, hz], by rw [hv]; exact chk_z0, by rw [hA]; exact h.set⟩, ?_⟩
  unfold lenO
  rw [if_pos hk, ht, e1]
theorem ins_head {o : Op5} (h : Ins o) {m : Nat} (h1 : 1 ≤ m) (hm : m < (scs o.t.data.toList).length) : Ins (headO o m) ∧ lenO (headO o m) = m := by
  have := ins_list (o' := headO o m) h (rs := (scs o.t.data.toList).take m) (fun r hr => (valid_text o.t h.utf).1 r (List.mem_of_mem_take hr)) (by rw [List.length_take]; omega) rfl rfl rfl rfl (head_list h.utf m)
  rw [List.length_take] at this
  exact ⟨this.1, by rw [this.2]; omega⟩
theorem ins_tail {o : Op5} (h : Ins o) {m : Nat} (hm : m < (scs o.t.data.toList).length) : Ins (tailO o m) ∧ lenO (tailO o m) = (scs o.t.data.toList).length - m := by
  have := ins_list (o' := tailO o m) h (rs := (scs o.t.data.toList).drop m) (fun r hr => (valid_text o.t h.utf).1 r (List.mem_of_mem_drop hr)) (by rw [List.length_drop]; omega) rfl rfl rfl rfl (tail_list h.utf m)
  rw [List.length_drop] at this
  exact this
theorem head_tail {o : Op5} (h : Ins o) (hk : o.k = 1) (m : Nat) : joinO (headO o m) (tailO o m) = o := by
  have hv : o.v = z0 := by
    rcases h.kind with ⟨_, hv⟩ | ⟨h2, _⟩
    · exact hv
    · omega
  have ht : (headO o m).t ++ (tailO o m).t = o.t := by
    apply ByteArray.ext
    apply Array.ext'
    rw [cat_list, head_list h.utf, tail_list h.utf, ← encs_append, List.take_append_drop]
    exact (valid_text o.t h.utf).2.1.symm
  have hc := h.count
  obtain ⟨k, t, v, c, A⟩ := o
  simp only at hk hv hc
  subst hk hv hc
  show (⟨1, (headO _ m).t ++ (tailO _ m).t, z0, 0, A⟩ : Op5) = _
  rw [ht]
theorem size_head (o : Op5) (m : Nat) : (headO o m).t.size ≤ o.t.size := by show (o.t.extract _ _).size ≤ _; rw [ByteArray.size_extract]; omega
theorem size_tail (o : Op5) (m : Nat) : (tailO o m).t.size ≤ o.t.size := by show (o.t.extract _ _).size ≤ _; rw [ByteArray.size_extract]; omega
theorem cells_cut {o : Op5} (h : Ins o) (hk : o.k = 1) {m : Nat} (h1 : 1 ≤ m) (hm : m < (scs o.t.data.toList).length) : cellsOf o = cellsOf (headO o m) ++ cellsOf (tailO o m) := by
  have := cells_join (ins_head h h1 hm).1 (ins_tail h hm).1 rfl rfl rfl
  rwa [head_tail h hk] at this
theorem lenO_pos {o : Op5} (h : Ins o) : 1 ≤ lenO o := by
  unfold lenO
  split
  · have h0 := isEmp_size h.full
    obtain ⟨_, h2, _⟩ := valid_text o.t h.utf
    rcases Nat.eq_zero_or_pos (scs o.t.data.toList).length with e | e
    · rw [List.eq_nil_of_length_eq_zero e] at h2
      have := size_toList o.t
      rw [h2] at this
      simp only [encs, List.length_nil] at this
      omega
    · exact e
  · exact Nat.le_refl _
theorem lenO_2 {o : Op5} (h : Ins o) (h2 : 2 ≤ lenO o) : o.k = 1 ∧ lenO o = (scs o.t.data.toList).length := by
  unfold lenO at h2 ⊢
  by_cases hk : o.k = 1
  · exact ⟨hk, if_pos hk⟩
  · rw [if_neg hk] at h2; omega
end Go.Proofs.YthfpmhnnjjikcabGreatDoor

/- Deltas unit by unit: parts and turned parts; documents and their cells. -/
namespace Go.Proofs.YthfpmhnnjjikcabGreatDoor
open Go Go.RowKit Go.Lib
set_option linter.unusedVariables false
/-- A cell that may be in a document. -/
def GoodC (c : C5) : Prop := (c.1 = -1 ∧ c.2.1.toList.isEmpty = false ∧ c.2.1.size ≤ 64 ∧ brk c.2.1.data.toList = c.2.1.size ∧ chkP c.2.2.1 = 0 ∨ ∃ r : Nat, c.1 = (r : Int) ∧ scal r ∧ c.2.1 = ⟨#[]⟩ ∧ c.2.2.1 = z0) ∧ listE false none c.2.2.2 = 0
/-- The operation that inserts a cell. -/
def opOf (c : C5) : Op5 := if c.1 = -1 then ⟨2, c.2.1, c.2.2.1, 0, c.2.2.2⟩ else ⟨1, ⟨(enc c.1.toNat).toArray⟩, z0, 0, c.2.2.2⟩
theorem opOf_good {c : C5} (h : GoodC c) : Wel (opOf c) ∧ unitsO (opOf c) = [.ins c] ∧ ((opOf c).k = 1 ∨ (opOf c).k = 2) := by
  obtain ⟨h, hs⟩ := h
  obtain ⟨a, t, v, A⟩ := c
  simp only at h hs
  rcases h with ⟨rfl, h1, h2, h3, h4⟩ | ⟨r, rfl, h1, rfl, rfl⟩
  · have e : opOf (-1, t, v, A) = ⟨2, t, v, 0, A⟩ := rfl
    rw [e]
    refine ⟨Or.inl ⟨⟨Or.inr ⟨rfl, h2⟩, h1, rfl, h3, h4, hs⟩, Or.inr rfl⟩, ?_, Or.inr rfl⟩
    rw [unitsO_1 (Or.inr rfl), cells2 rfl]
  · have e : opOf ((r : Int), ⟨#[]⟩, z0, A) = ⟨1, ⟨(enc r).toArray⟩, z0, 0, A⟩ := by
      unfold opOf
      rw [if_neg (by simp only; omega)]
      simp
    rw [e]
    obtain ⟨s1, s2⟩ := scs_of (rs := [r]) (fun x hx => by rw [List.mem_singleton.1 hx]; exact h1)
    have e2 : encs [r] = enc r := by simp [encs]
    rw [e2] at s1 s2
    have hp := enc_pos h1
    have hsz : (⟨(enc r).toArray⟩ : ByteArray).size = (enc r).length := by simp [ByteArray.size]
    refine ⟨Or.inl ⟨⟨Or.inl ⟨rfl, rfl⟩, size_isEmp (by rw [hsz]; exact hp.1), rfl, ?_, chk_z0, hs⟩, Or.inl rfl⟩, ?_, Or.inl rfl⟩
    · show brk (enc r) = _
      rw [s2, hsz]
    · rw [unitsO_1 (Or.inl rfl)]
      unfold cellsOf
      rw [if_pos rfl]
      show (mkC A (scs (enc r))).map U6.ins = _
      rw [s1]; rfl
/-- A list of inserts alone. -/
def DocL (E : List Op5) : Prop := ∀ o ∈ E, o.k = 1 ∨ o.k = 2
/-- A document's cells. -/
def cellsL (E : List Op5) : List C5 := E.flatMap cellsOf
theorem units_doc : ∀ {E : List Op5}, DocL E → units E = (cellsL E).map .ins
  | [], _ => rfl
  | o :: r, h => by
    show unitsO o ++ units r = _
    rw [unitsO_1 (h o (List.mem_cons_self ..)), units_doc fun x hx => h x (List.mem_cons_of_mem _ hx)]
    show _ = ((cellsOf o ++ cellsL r).map U6.ins)
    rw [List.map_append]
theorem units_ops : ∀ {cs : List C5}, (∀ c ∈ cs, GoodC c) → units (cs.map opOf) = cs.map .ins
  | [], _ => rfl
  | c :: cs, h => by
    show unitsO (opOf c) ++ units (cs.map opOf) = _
    rw [(opOf_good (h c (List.mem_cons_self ..))).2.1, units_ops fun x hx => h x (List.mem_cons_of_mem _ hx)]; rfl
/-- The document of cells. -/
def docOf (cs : List C5) : List Op5 := canonL (cs.map opOf)
theorem strip_ins : ∀ (l : List C5), stripU (l.map U6.ins) = l.map U6.ins := fun l => by
  rcases List.eq_nil_or_concat l with rfl | ⟨m, c, rfl⟩
  · rfl
  · rw [List.concat_eq_append, List.map_append]
    exact strip_end rfl
theorem nrm_ins0 (l : List C5) : nrm [] 0 (l.map .ins) = l.map .ins := by
  have := nrm_ins l [] 0 []
  rw [List.append_nil] at this
  rw [this]; simp [nrm]
theorem doc_units {cs : List C5} (h : ∀ c ∈ cs, GoodC c) : (∀ o ∈ docOf cs, Wel o) ∧ chainB (docOf cs) = true ∧ lastP (docOf cs) = true ∧ units (docOf cs) = cs.map .ins := by
  have hw : ∀ o ∈ cs.map opOf, Wel o := fun o ho => by
    obtain ⟨c, hc, rfl⟩ := List.mem_map.1 ho
    exact (opOf_good (h c hc)).1
  obtain ⟨t1, t2, t3, t4⟩ := canon_spec hw
  exact ⟨t1, t2, t3, by rw [show units (docOf cs) = _ from t4, units_ops h, nrm_ins0, strip_ins]⟩
theorem ins_map_inj {a b : List C5} (h : a.map U6.ins = b.map U6.ins) : a = b := (List.map_inj_right fun x y h => U6.ins.inj h).1 h
theorem wel_doc {E : List Op5} (h : ∀ o ∈ E, Wel o) {cs : List C5} (e : units E = cs.map .ins) : DocL E := fun o ho => by
  have hw := h o ho
  obtain ⟨u, us, hu⟩ := List.exists_cons_of_ne_nil (unitsO_ne hw)
  have m : u ∈ unitsO o := by rw [hu]; exact List.mem_cons_self ..
  have mem : ∀ {E : List Op5} {o : Op5} {u : U6}, o ∈ E → u ∈ unitsO o → u ∈ units E := fun {E} => by
    induction E with
    | nil => intro o u h; cases h
    | cons x r ih =>
      intro o u h hu
      show u ∈ unitsO x ++ units r
      rcases List.mem_cons.1 h with rfl | h
      · exact List.mem_append_left _ hu
      · exact List.mem_append_right _ (ih h hu)
  have := mem ho m
  rw [e] at this
  obtain ⟨c, _, rfl⟩ := List.mem_map.1 this
  rcases unit_cases hw m with ⟨hk, _⟩ | ⟨hk, _⟩ | ⟨_, h⟩ | ⟨_, h⟩
  · exact Or.inl hk
  · exact Or.inr hk
  · cases h
  · cases h
/-- **Cells make a document, and its cells are those.** -/
theorem cells_doc {cs : List C5} (h : ∀ c ∈ cs, GoodC c) : DocL (docOf cs) ∧ cellsL (docOf cs) = cs := by
  obtain ⟨t1, _, _, t4⟩ := doc_units h
  have hd := wel_doc t1 t4
  exact ⟨hd, ins_map_inj (by rw [← units_doc hd, t4])⟩
end Go.Proofs.YthfpmhnnjjikcabGreatDoor

/- A builder in memory: what stands while it is written; the strings.Builder that it bears. -/
namespace Go.Proofs.YthfpmhnnjjikcabGreatDoor
open Go Go.RowKit Go.Lib
set_option linter.unusedVariables false
/-- Below B the memory stands, and what D says but for rows of bytes, and all rows of pairs. -/
structure FrB (B : Nat) (D : Nat → Prop) (w w' : World) : Prop where
  below : Below B w w'
  kept : ∀ (k : Nat) (o : Obj), w.heap[k]? = some o → D k → (∀ c fz, o ≠ .cells c 5 fz) → w'.heap[k]? = some o
  keepA : KeepA w w'
theorem FrB.refl (B : Nat) (D : Nat → Prop) (w : World) : FrB B D w w := ⟨Below.refl _ _, fun _ _ h _ _ => h, fun _ _ h => rfl⟩
theorem FrB.trans {B : Nat} {D : Nat → Prop} {a b c : World} (h : FrB B D a b) (k : FrB B D b c) : FrB B D a c :=
  ⟨h.below.trans k.below, fun i o ho hd hn => k.kept i o (h.kept i o ho hd hn) hd hn, h.keepA.trans k.keepA⟩
theorem FrB.mono {B : Nat} {D D' : Nat → Prop} {w w' : World} (h : FrB B D w w') (hd : ∀ k, D' k → D k) : FrB B D' w w' := ⟨h.below, fun i o ho hk hn => h.kept i o ho (hd i hk) hn, h.keepA⟩
theorem FrB.low {B B' : Nat} {D : Nat → Prop} {w w' : World} (h : FrB B D w w') (hb : B' ≤ B) : FrB B' D w w' := ⟨h.below.mono hb, h.kept, h.keepA⟩
theorem FrB.of_below {B : Nat} {D : Nat → Prop} {w w' : World} (h : Below w.heap.size w w') (hB : B ≤ w.heap.size) : FrB B D w w' :=
  ⟨h.mono hB, fun k o ho _ _ => (h.block k (Array.getElem?_eq_some_iff.1 ho).1).trans ho, keepA_below h⟩
theorem FrB.drew {B : Nat} {D : Nat → Prop} {a w : World} (h : FrB B D a w) : FrB B D a w.drew := ⟨h.below.drew, h.kept, h.keepA⟩
theorem FrB.drewN {B : Nat} {D : Nat → Prop} {a w : World} (h : FrB B D a w) (n : Nat) : FrB B D a (w.drewN n) := ⟨below_drewN h.below n, h.kept, h.keepA⟩
theorem FrB.alloc {B : Nat} {D : Nat → Prop} {a w : World} (h : FrB B D a w) (hB : B ≤ w.heap.size) (o : Obj) : FrB B D a (w.alloc o) :=
  h.trans (.of_below ((Below.refl _ _).alloc (Nat.le_refl _) _) hB)
theorem FrB.setCell {B : Nat} {D : Nat → Prop} {a w : World} (h : FrB B D a w) {g j : Nat} {cs : Array Value} {T : TypeId} {fz : Nat × Nat} (hg : w.heap[g]? = some (.cells cs T fz)) (hT : T ≠ 45) (hB : B ≤ g) (hD : ¬ D g) (u : Value) : FrB B D a (w.setCell ⟨g, j, none⟩ u) := by
  refine h.trans ⟨(Below.refl _ _).setCell (p := ⟨g, j, none⟩) hB u, fun k o ho hd hn => ?_, fun k cur hk => ?_⟩
  · rw [Below.heap_setCell _ _ _ _ (by intro e; obtain rfl : k = g := e; exact hD hd)]; exact ho
  · refine Below.heap_setCell _ _ _ _ fun e => ?_
    obtain rfl : k = g := e
    rw [hg] at hk
    simp only [Option.some.injEq, Obj.cells.injEq] at hk
    exact hT hk.2.1
theorem FrB.grown {B : Nat} {D : Nat → Prop} {a w w' : World} {row : Option Nat} (h : FrB B D a w) (hg : w.grownBy w' row) (hB : B ≤ w.heap.size)
    (hr : ∀ k, row = some k → B ≤ k ∧ ∃ cs T fz, w.heap[k]? = some (.cells cs T fz) ∧ T ≠ 45 ∧ (D k → T = 5)) : FrB B D a w' := by
  refine h.trans ⟨(Below.refl _ _).grown hg hB (fun k hk => (hr k hk).1), fun k o ho hd hn => ?_, fun k cur hk => ?_⟩
  · refine (hg.block k (Array.getElem?_eq_some_iff.1 ho).1 fun e => ?_).trans ho
    obtain ⟨_, cs, T, fz, h1, _, h3⟩ := hr k e.symm
    rw [h1] at ho
    obtain rfl := Option.some.inj ho
    obtain rfl := h3 hd
    exact hn _ _ rfl
  · refine hg.block k (Array.getElem?_eq_some_iff.1 hk).1 fun e => ?_
    obtain ⟨_, cs, T, fz, h1, h2, _⟩ := hr k e.symm
    rw [h1] at hk
    simp only [Option.some.injEq, Obj.cells.injEq] at hk
    exact h2 hk.2.1
theorem heap_freeze (w : World) (p : Addr) (n k : Nat) (h : k ≠ p.block) : (w.freeze p n).heap[k]? = w.heap[k]? := by
  unfold World.freeze
  split
  · rfl
  · simp only [Array.getElem?_modify]
    rw [if_neg (fun e => h e.symm)]
theorem FrB.freeze {B : Nat} {D : Nat → Prop} {a w : World} (h : FrB B D a w) {g n : Nat} {cs : Array Value} {fz : Nat × Nat} (hg : w.heap[g]? = some (.cells cs 5 fz)) (hB : B ≤ g) : FrB B D a (w.freeze ⟨g, 0, none⟩ n) := by
  refine h.trans ⟨Lib.below_freeze (Below.refl B w) (p := ⟨g, 0, none⟩) hB _, fun k o ho hd hn => ?_, fun k cur hk => ?_⟩
  · refine (heap_freeze _ _ _ _ fun e => ?_).trans ho
    obtain rfl : k = g := e
    rw [hg] at ho
    obtain rfl := Option.some.inj ho
    exact hn _ _ rfl
  · refine heap_freeze _ _ _ _ fun e => ?_
    obtain rfl : k = g := e
    rw [hg] at hk
    simp only [Option.some.injEq, Obj.cells.injEq] at hk
    exact absurd hk.2.1 (by decide)

theorem infoU8 : ∃ i, Tryz.prog.info? 5 = some i ∧ i.zero = some (.int .u8 0) ∧ i.size = 1 ∧ i.bytes = 1 := by
  obtain ⟨i, hi, h⟩ := Option.map_eq_some_iff.1 (show (Tryz.prog.info? 5).map (fun i => (i.zero, i.size, i.bytes)) = some (some (.int .u8 0), 1, 1) by kernel_rfl)
  simp only [Prod.mk.injEq] at h
  exact ⟨i, hi, h.1, h.2.1, h.2.2⟩

/-- The six cells of a builder; the last two are its strings.Builder's, which holds l. -/
structure Sbd (w : World) (B g : Nat) (c0 c1 c2 c3 av jv : Value) (l : List UInt8) : Prop where
  lo : B ≤ g
  at_ : w.heap[g]? = some (.cells #[c0, c1, c2, c3, av, jv] 134 (0, 0))
  buf : w.ownsRowF B 5 1 jv l.length (byteCells l)
  adr : av = .pointer none ∨ av = .pointer (some ⟨g, 4, none⟩)
def SbE (w : World) (B g : Nat) (c0 c1 c2 c3 : Value) (l : List UInt8) : Prop := ∃ av jv, Sbd w B g c0 c1 c2 c3 av jv l
theorem Sbd.lt {w : World} {B g : Nat} {c0 c1 c2 c3 av jv : Value} {l : List UInt8} (h : Sbd w B g c0 c1 c2 c3 av jv l) : g < w.heap.size := (Array.getElem?_eq_some_iff.1 h.at_).1
theorem Sbd.ne {w : World} {B g : Nat} {c0 c1 c2 c3 av jv : Value} {l : List UInt8} (h : Sbd w B g c0 c1 c2 c3 av jv l) : jv.ownBlock ≠ some g := ownBlock_neF h.buf h.at_ (by decide)
theorem rowF_same {w w' : World} {B : Nat} {e : TypeId} {v : Value} {n : Nat} {xs : List Value} (h : w.ownsRowF B e 1 v n xs) (hk : ∀ k, v.ownBlock = some k → w'.heap[k]? = w.heap[k]?) : w'.ownsRowF B e 1 v n xs := by
  refine ⟨h.1, ?_⟩
  rcases h.2 with hn | ⟨g, cap, cur, fz, rfl, hb, hgg, rest⟩
  · exact .inl hn
  · exact .inr ⟨g, cap, cur, fz, rfl, hb, (hk g rfl).trans hgg, rest⟩
theorem Sbd.set4 {w : World} {B g : Nat} {c0 c1 c2 c3 av jv : Value} {l : List UInt8} (h : Sbd w B g c0 c1 c2 c3 av jv l) (q : Value) (hq : q = .pointer none ∨ q = .pointer (some ⟨g, 4, none⟩)) : Sbd (w.setCell ⟨g, 4, none⟩ q) B g c0 c1 c2 c3 q jv l :=
  ⟨h.lo, by rw [heap_set_at _ _ _ _ _ _ _ h.at_]; rfl, rowF_same h.buf fun k hk => Below.heap_setCell _ _ _ _ (fun e => h.ne (by rw [hk, e])), hq⟩
theorem Sbd.set5 {w : World} {B g : Nat} {c0 c1 c2 c3 av jv jv' : Value} {l' : List UInt8} (hlo : B ≤ g) (hat : w.heap[g]? = some (.cells #[c0, c1, c2, c3, av, jv] 134 (0, 0))) (hbuf : w.ownsRowF B 5 1 jv' l'.length (byteCells l')) (hadr : av = .pointer none ∨ av = .pointer (some ⟨g, 4, none⟩)) : Sbd (w.setCell ⟨g, 5, none⟩ jv') B g c0 c1 c2 c3 av jv' l' :=
  ⟨hlo, by rw [heap_set_at _ _ _ _ _ _ _ hat]; rfl, rowF_same hbuf fun k hk => Below.heap_setCell _ _ _ _ (fun e => ownBlock_neF hbuf hat (by decide) (by rw [hk, e])), hadr⟩
theorem strCells_byte (s : ByteArray) : strCells s = byteCells s.data.toList := rfl

set_option maxHeartbeats 1000000 in
theorem sbLen_any (B g : Nat) (c0 c1 c2 c3 : Value) (l : List UInt8) (w : World) (h : SbE w B g c0 c1 c2 c3 l) :
    Calls Tryz.prog 173 #[.pointer (some ⟨g, 4, none⟩)] w fun e w' => e = .returned (.int .i64 l.length) ∧ w' = w := by
  obtain ⟨av, jv, h⟩ := h
  obtain ⟨p, n, cap, rfl, hn⟩ : ∃ p n cap, jv = .slice p n cap ∧ n = l.length := by
    rcases h.buf.2 with ⟨rfl, h0⟩ | ⟨g', cap, cur, fz, rfl, _⟩
    · exact ⟨none, 0, 0, rfl, h0.symm⟩
    · exact ⟨_, _, _, rfl, rfl⟩
  have c5 : w.cell? ⟨g, 5, none⟩ = some (.slice p n cap) := by rw [cell_of_heap h.at_]; rfl
  rw [← hn]
  clear h hn
  go_enter Tryz.func173, Tryz.ntmps173
  go_wp2
  go_ret
  exact ⟨rfl, rfl⟩
set_option maxHeartbeats 1000000 in
set_option maxRecDepth 100000 in
theorem sbCheck_any (B g : Nat) (c0 c1 c2 c3 : Value) (l : List UInt8) (w : World) (h : SbE w B g c0 c1 c2 c3 l) :
    Calls Tryz.prog 178 #[.pointer (some ⟨g, 4, none⟩)] w fun e w' => e = .returned (.tuple #[]) ∧ (∃ jv, Sbd w' B g c0 c1 c2 c3 (.pointer (some ⟨g, 4, none⟩)) jv l) ∧ FrB B (fun k => k ≠ g) w w' := by
  obtain ⟨av, jv, h⟩ := h
  have c4 : w.cell? ⟨g, 4, none⟩ = some av := by rw [cell_of_heap h.at_]; rfl
  have f4 : w.frozen? ⟨g, 4, none⟩ = false := frozen_of_heap h.at_ 4
  have HF : Hid (FrB B (fun k => k ≠ g) w (w.setCell ⟨g, 4, none⟩ (.pointer (some ⟨g, 4, none⟩)))) := (FrB.refl _ _ w).setCell h.at_ (by decide) h.lo (by simp) _
  have HS : Hid (Sbd (w.setCell ⟨g, 4, none⟩ (.pointer (some ⟨g, 4, none⟩))) B g c0 c1 c2 c3 (.pointer (some ⟨g, 4, none⟩)) jv l) := h.set4 _ (Or.inr rfl)
  have hsh : w.shape? g = some (134, 6) := by simp [World.shape?, h.at_]
  obtain ⟨j, hj, hjs⟩ := Option.map_eq_some_iff.1 (show (Tryz.prog.info? 132).map (·.size) = some 2 by kernel_rfl)
  rcases h.adr with rfl | rfl
  · clear h
    go_enter Tryz.func178, Tryz.ntmps178
    go_wp2
    rw [Lib.run_to_unsafe w ⟨g, 4, none⟩ Tryz.underlying129 Tryz.underlying240 hj (by rw [hjs]; decide) hsh (by decide : 4 < 6)]
    simp only [Result.andThen]
    rw [Oper.upon_value]
    go_wp2
    rw [run_callFunc_extern Tryz.func180 (by kernel_rfl) (by kernel_rfl) (by kernel_rfl) (e := Extern.AbiNoEscape.same) (by kernel_rfl)]
    rw [Lib.run_noEscape]
    simp only [Result.andThen]
    rw [Oper.upon_value]
    go_wp2
    rw [Lib.run_from_unsafe w ⟨g, 4, none⟩ Tryz.underlying240 Tryz.underlying129 hj hsh (by kernel_rfl)]
    simp only [Result.andThen]
    rw [Oper.upon_value]
    go_wp2
    go_end0
    exact ⟨rfl, ⟨jv, HS.out⟩, HF.out⟩
  · have HS2 : Hid (Sbd w B g c0 c1 c2 c3 (.pointer (some ⟨g, 4, none⟩)) jv l) := h
    clear h
    go_enter Tryz.func178, Tryz.ntmps178
    go_wp2
    rw [Lib.run_neq_ptr_same w _ Tryz.underlying129 hj]
    go_wp2
    go_end0
    exact ⟨rfl, ⟨jv, HS2.out⟩, FrB.refl _ _ _⟩
set_option maxHeartbeats 2000000 in
set_option maxRecDepth 100000 in
theorem sbWrite_any (B g : Nat) (c0 c1 c2 c3 : Value) (l : List UInt8) (s : ByteArray) (w : World) (h : SbE w B g c0 c1 c2 c3 l) (hlen : l.length + s.size ≤ 140737488355328) (hBw : B ≤ w.heap.size) :
    Calls Tryz.prog 174 #[.pointer (some ⟨g, 4, none⟩), .string s] w fun e w' => e = .returned (.tuple #[.int .i64 s.size, .nilIface]) ∧ SbE w' B g c0 c1 c2 c3 (l ++ s.data.toList) ∧ FrB B (fun k => k ≠ g) w w' := by
  obtain ⟨i0, hi, hz0, hz1, hz2⟩ := infoU8
  have cc := sbCheck_any B g c0 c1 c2 c3 l w h
  clear h
  go_enter Tryz.func174, Tryz.ntmps174
  go_wp2_with fail
  refine cc.mono ?_; rintro e w1 ⟨rfl, ⟨jv, h1⟩, hf1⟩
  have c5 : w1.cell? ⟨g, 5, none⟩ = some jv := by rw [cell_of_heap h1.at_]; rfl
  have HH : Hid (Sbd w1 B g c0 c1 c2 c3 (.pointer (some ⟨g, 4, none⟩)) jv l ∧ FrB B (fun k => k ≠ g) w w1) := ⟨h1, hf1⟩
  clear cc h1 hf1
  go_wp2_with (at_builtin; refine Lib.wpList_append_own_stringF _ rfl _ _ 130 9 rfl B 5 i0 Tryz.underlying130 Tryz.underlying9 hi hz0 hz1 hz2 _ _ _ rfl HH.out.1.buf s rfl ?c3 ?c4 ?c5 ?_)
  case c3 => unfold maxLen; omega
  case c4 => omega
  case c5 => exact Nat.le_trans hBw HH.out.2.below.size
  intro v' w2 hown' hgrow _
  obtain ⟨h1, hf1⟩ := HH.out
  have hb2 : w2.heap[g]? = some (.cells #[c0, c1, c2, c3, .pointer (some ⟨g, 4, none⟩), jv] 134 (0, 0)) := by
    rw [hgrow.block g h1.lt (fun e => h1.ne e.symm)]
    exact h1.at_
  have d5 : w2.cell? ⟨g, 5, none⟩ = some jv := by rw [cell_of_heap hb2]; rfl
  have f5 : w2.frozen? ⟨g, 5, none⟩ = false := frozen_of_heap hb2 5
  obtain ⟨ao, n', cap, rfl⟩ : ∃ ao n' cap, v' = .slice ao n' cap := by
    rcases hown'.2 with ⟨hv, _⟩ | ⟨g', cap, cur, fz, hv, _⟩
    · exact ⟨_, _, _, hv⟩
    · exact ⟨_, _, _, hv⟩
  have HS : Hid (Sbd (w2.setCell ⟨g, 5, none⟩ (.slice ao n' cap)) B g c0 c1 c2 c3 (.pointer (some ⟨g, 4, none⟩)) (.slice ao n' cap) (l ++ s.data.toList)) := by
    refine Sbd.set5 h1.lo hb2 ?_ (Or.inr rfl)
    have e1 : byteCells (l ++ s.data.toList) = byteCells l ++ strCells s := by rw [strCells_byte]; simp [byteCells]
    rw [e1, List.length_append, size_toList]
    exact hown'
  have HF : Hid (FrB B (fun k => k ≠ g) w (w2.setCell ⟨g, 5, none⟩ (.slice ao n' cap))) := by
    refine (hf1.grown hgrow (Nat.le_trans hBw hf1.below.size) fun k hk => ?_).setCell hb2 (by decide) h1.lo (by simp) _
    obtain ⟨c, fz, hc⟩ := ownsRowF_kind h1.buf k hk
    exact ⟨(h1.buf.lt k hk).1, c, _, fz, hc, by decide, fun _ => rfl⟩
  clear HH h1 hf1 hb2 hown' hgrow c5
  go_wp2
  go_ret2
  exact ⟨rfl, ⟨_, _, HS.out⟩, HF.out⟩
set_option maxHeartbeats 2000000 in
set_option maxRecDepth 100000 in
theorem sbReset_any (B g : Nat) (c0 c1 c2 c3 : Value) (l : List UInt8) (w : World) (h : SbE w B g c0 c1 c2 c3 l) :
    Calls Tryz.prog 155 #[.pointer (some ⟨g, 4, none⟩)] w fun e w' => e = .returned (.tuple #[]) ∧ SbE w' B g c0 c1 c2 c3 [] ∧ FrB B (fun k => k ≠ g) w w' := by
  obtain ⟨av, jv, h⟩ := h
  have c4 : w.cell? ⟨g, 4, none⟩ = some av := by rw [cell_of_heap h.at_]; rfl
  have c5 : w.cell? ⟨g, 5, none⟩ = some jv := by rw [cell_of_heap h.at_]; rfl
  have f4 : w.frozen? ⟨g, 4, none⟩ = false := frozen_of_heap h.at_ 4
  have f5 : w.frozen? ⟨g, 5, none⟩ = false := frozen_of_heap h.at_ 5
  have h4 := h.set4 (.pointer none) (Or.inl rfl)
  have HS : Hid (Sbd ((w.setCell ⟨g, 4, none⟩ (.pointer none)).setCell ⟨g, 5, none⟩ (.slice none 0 0)) B g c0 c1 c2 c3 (.pointer none) (.slice none 0 0) []) := Sbd.set5 h.lo h4.at_ (World.ownsRowF_nil _ _ _ _) (Or.inl rfl)
  have HF : Hid (FrB B (fun k => k ≠ g) w ((w.setCell ⟨g, 4, none⟩ (.pointer none)).setCell ⟨g, 5, none⟩ (.slice none 0 0))) := ((FrB.refl _ _ w).setCell h.at_ (by decide) h.lo (by simp) _).setCell h4.at_ (by decide) h.lo (by simp) _
  clear h h4
  go_enter Tryz.func155, Tryz.ntmps155
  go_wp2
  go_end0
  exact ⟨rfl, ⟨_, _, HS.out⟩, HF.out⟩
set_option maxHeartbeats 2000000 in
set_option maxRecDepth 100000 in
theorem sbString_any (B g : Nat) (c0 c1 c2 c3 : Value) (l : List UInt8) (w : World) (h : SbE w B g c0 c1 c2 c3 l) (h0 : l ≠ []) :
    Calls Tryz.prog 175 #[.pointer (some ⟨g, 4, none⟩)] w fun e w' => e = .returned (.string ⟨l.toArray⟩) ∧ SbE w' B g c0 c1 c2 c3 l ∧ FrB B (fun k => k ≠ g) w w' := by
  obtain ⟨av, jv, h⟩ := h
  have hl0 : l.length ≠ 0 := by simpa using h0
  obtain ⟨r, cap, cur, fz, rfl, hbg, hg, hfz, hnc, hcm, hcs, htake⟩ : ∃ r cap cur fz, jv = .slice (some ⟨r, 0, none⟩) l.length cap ∧ B ≤ r ∧ w.heap[r]? = some (.cells cur 5 fz) ∧ fz.2 ≤ l.length * 1 ∧ l.length ≤ cap ∧ cap ≤ maxLen ∧ cur.size = cap * 1 ∧ cur.toList.take (l.length * 1) = byteCells l := by
    rcases h.buf.2 with ⟨_, hz⟩ | ⟨g', cap, cur, fz, hv, r⟩
    · exact absurd hz hl0
    · exact ⟨g', cap, cur, fz, hv, r⟩
  have c5 : w.drew.cell? ⟨g, 5, none⟩ = some (.slice (some ⟨r, 0, none⟩) l.length cap) := by
    have : w.drew.heap[g]? = _ := h.at_
    rw [cell_of_heap this]; rfl
  have hrg : r ≠ g := fun e => h.ne (by simp [Value.ownBlock, e])
  have hSD : (Builtin.unsafeSliceData_ #[130] 239 #[.slice (some ⟨r, 0, none⟩) l.length cap]).run Tryz.prog w.drew = .ok (.pointer (some ⟨r, 0, none⟩)) w.drew :=
    Lib.run_unsafeSliceData_row _ _ _ _ _ _ (by omega)
  have hcells : Tryz.prog.cellsOf 5 = 1 := by kernel_rfl
  have hUS : (Builtin.unsafeString_ #[239, 3] 9 #[.pointer (some ⟨r, 0, none⟩), .int .i64 l.length]).run Tryz.prog w.drew = .ok (.string ⟨l.toArray⟩) (w.drew.freeze ⟨r, 0, none⟩ l.length) := by
    refine Lib.run_unsafeString_row w.drew 239 3 9 5 Tryz.underlying239 hcells r cur.size (by have hg' : w.drew.heap[r]? = some (.cells cur 5 fz) := hg; simp [World.shape?, hg']) l h0 (by omega) (by unfold maxLen at hcm; omega) ?_
    intro j x hx
    have := h.buf.cells (g := r) rfl j (.int .u8 x.toNat) (by simp [byteCells, hx])
    exact this
  have HS : Hid (Sbd (w.drew.freeze ⟨r, 0, none⟩ l.length) B g c0 c1 c2 c3 av (.slice (some ⟨r, 0, none⟩) l.length cap) l) := by
    refine ⟨h.lo, (heap_freeze _ _ _ _ (fun e => hrg e.symm)).trans h.at_, ⟨h.buf.1, ?_⟩, h.adr⟩
    unfold World.freeze
    rw [if_neg (by simpa using hl0)]
    obtain ⟨lo, hi⟩ := fz
    refine .inr ⟨r, _, cur, (if lo == hi then (0, 0 + l.length) else (min lo 0, max hi (0 + l.length))), rfl, hbg, ?_, ?_, hnc, hcm, hcs, htake⟩
    · have hg' : w.drew.heap[r]? = some (.cells cur 5 (lo, hi)) := hg
      simp [Array.getElem?_modify, hg']
    · simp only at hfz
      split <;> simp <;> omega
  have HF : Hid (FrB B (fun k => k ≠ g) w (w.drew.freeze ⟨r, 0, none⟩ l.length)) := (FrB.refl _ _ w).drew.freeze (w := w.drew) (cs := cur) (fz := fz) hg hbg
  clear h hg hfz hnc hcm hcs htake hbg
  go_enter Tryz.func175, Tryz.ntmps175
  go_wp2
  go_region
  all_goals (go_wp2; go_ret; exact ⟨rfl, ⟨_, _, HS.out⟩, HF.out⟩)
end Go.Proofs.YthfpmhnnjjikcabGreatDoor
