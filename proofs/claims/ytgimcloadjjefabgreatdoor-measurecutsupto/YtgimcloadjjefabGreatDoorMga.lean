/- ops: what a piece bears; plain retains; what may follow what. ops.Canonical. What vellumref04.SameCell and SameCells answer: whether the cells are the same. What content.Cut answers. What content.Cut answers of a text that can be cut. What content.Join answers. content.textCells: the cells of a text. What the values' methods answer: Kind, Plain; how values of the interface compare. What content.Cells and content.Newlines answer. vellumlaw04.lives. Joins of inserts, purely; Join at all operations. Deltas unit by unit: what operations are, cell by cell and gap by gap; canonical lists are told apart by it. -/
import Derived.Test.YtgimcloadjjefabGreatDoorQe
import Derived.Test.YtgimcloadjjefabGreatDoorSm
import Derived.Test.YtgimcloadjjefabGreatDoorCc
import Derived.Deep.RegionHeld3
import Derived.Test.YtgimcloadjjefabGreatDoorCq
import Derived.BigRegion
import Derived.Deep.DeepCutAuto
import Derived.Laws.MakeOwn
import Derived.Test.YtgimcloadjjefabGreatDoorVs
import Derived.Test.YtgimcloadjjefabGreatDoorVf

/- ops: what a piece bears; plain retains; what may follow what. -/
namespace Go.Proofs.YtgimcloadjjefabGreatDoor
open Go Go.RowKit Go.Lib
set_option linter.unusedVariables false

theorem pieceQ_1 {o : Op5} {s : Value} (h : o.k = 1) : pieceQ o s = .iface 111 (.agg #[s, .string o.t, .int .i64 (scs o.t.data.toList).length]) := by unfold pieceQ; rw [if_pos h]
theorem pieceQ_2 {o : Op5} {s : Value} (h : o.k = 2) : pieceQ o s = .iface 116 (.agg #[s, .string o.t, valP o.v]) := by unfold pieceQ; rw [if_neg (by omega), if_pos h]
theorem pieceQ_3 {o : Op5} {s : Value} (h : o.k = 3) : pieceQ o s = .iface 73 (.agg #[s, .int .i64 o.c]) := by unfold pieceQ; rw [if_neg (by omega), if_neg (by omega), if_pos h]
theorem pieceQ_4 {o : Op5} {s : Value} (h : o.k = 4) : pieceQ o s = .iface 82 (.agg #[.int .i64 o.c]) := by unfold pieceQ; rw [if_neg (by omega), if_neg (by omega), if_neg (by omega)]
/-- Is an operation a plain retain? -/
def plainR (o : Op5) : Bool := o.k == 3 && o.A.isEmpty
/-- May an operation stand right behind another one in a canonical list? -/
def apartB (x y : Op5) : Bool := if x.k = 4 then y.k == 3 else if x.k ≠ y.k ∨ x.k = 2 then true else !decide (x.A = y.A)
theorem drop_A {o : Op5} (h : opE o = 0) (hk : o.k = 4) : o.A = [] := by
  rcases op_good h with ⟨_, h1⟩ | ⟨_, _, h1⟩ | ⟨_, h2, _⟩
  · omega
  · omega
  · exact h2

end Go.Proofs.YtgimcloadjjefabGreatDoor

/- ops.Canonical. -/
namespace Go.Proofs.YtgimcloadjjefabGreatDoor
open Go Go.RowKit Go.Lib
set_option linter.unusedVariables false

/-- Each may follow the one ahead of it. -/
def chainB : List Op5 → Bool
  | x :: y :: r => apartB x y && chainB (y :: r)
  | _ => true
/-- The last one isn't a plain retain. -/
def lastP (E : List Op5) : Bool := match E.getLast? with | some o => !plainR o | none => true
/-- Is a list canonical? -/
def canonB (E : List Op5) : Bool := decide ((lensL E).2.2 = 0) && chainB E && lastP E
theorem chain_iff : ∀ {E : List Op5}, chainB E = true ↔ ∀ j x y, E[j]? = some x → E[j + 1]? = some y → apartB x y = true
  | [] => ⟨fun _ j x y h => by simp at h, fun _ => rfl⟩
  | [a] => ⟨fun _ j x y _ h => by simp at h, fun _ => rfl⟩
  | a :: b :: r => by
    rw [chainB, Bool.and_eq_true, chain_iff (E := b :: r)]
    constructor
    · rintro ⟨h1, h2⟩ j x y hx hy
      cases j with
      | zero =>
        obtain rfl : a = x := by simpa using hx
        obtain rfl : b = y := by simpa using hy
        exact h1
      | succ j => exact h2 j x y (by simpa using hx) (by simpa using hy)
    · intro h
      exact ⟨h 0 a b rfl rfl, fun j x y hx hy => h (j + 1) x y (by simpa using hx) (by simpa using hy)⟩
theorem lens_cases (E : List Op5) : (lensL E).2.2 = 0 ↔ (badP E).2 = 0 ∧ (sumL 0 0 E).2.2 = 0 := by
  unfold lensL
  by_cases h : (badP E).2 = 0
  · rw [if_neg (by simpa using h)]; exact ⟨fun h2 => ⟨h, h2⟩, fun h2 => h2.2⟩
  · rw [if_pos h]; exact ⟨fun h2 => absurd h2 h, fun h2 => absurd h2.1 h⟩

end Go.Proofs.YtgimcloadjjefabGreatDoor

/- What vellumref04.SameCell and SameCells answer: whether the cells are the same. -/
namespace Go.Proofs.YtgimcloadjjefabGreatDoor
open Go Go.RowKit Go.Lib
set_option linter.unusedVariables false

abbrev ceC (d : CV) : Array Value := #[.int .i32 d.1, .string d.2.1, .int .i64 d.2.2.1.1, .int .i64 d.2.2.1.2.1, .string d.2.2.1.2.2, slV d.2.2.2]
end Go.Proofs.YtgimcloadjjefabGreatDoor

/- What content.Cut answers. -/
namespace Go.Proofs.YtgimcloadjjefabGreatDoor
open Go Go.RowKit Go.Lib
set_option linter.unusedVariables false

/-- The three boxes of a call that answers two operations. -/
abbrev bx3 (w : World) (o : Op5) (s : Value) : World := ((w.alloc (.cells (opC o s) 46)).alloc (.cells (opC opZ nilS) 46)).alloc (.cells (opC opZ nilS) 46)
theorem bx3_below (w : World) (o : Op5) (s : Value) : Below w.heap.size w (bx3 w o s) := (((Below.refl w.heap.size w).alloc (Nat.le_refl _) _).alloc (by simp) _).alloc (by simp; omega) _
theorem bx3_0 (w : World) (o : Op5) (s : Value) : BoxO (bx3 w o s) w.heap.size o s := ((BoxO.new w o s).below ((Below.refl _ _).alloc (Nat.le_refl _) _)).below ((Below.refl _ _).alloc (Nat.le_refl _) _)
theorem bx3_1 (w : World) (o : Op5) (s : Value) : BoxO (bx3 w o s) (w.heap.size + 1) opZ nilS ∧ FrO (bx3 w o s) (w.heap.size + 1) := by
  have h1 := BoxO.new (w.alloc (.cells (opC o s) 46)) opZ nilS
  have h2 := FrO.new (w.alloc (.cells (opC o s) 46)) opZ nilS
  rw [World.size_alloc] at h1 h2
  exact ⟨h1.below ((Below.refl _ _).alloc (Nat.le_refl _) _), h2.below h1 ((Below.refl _ _).alloc (Nat.le_refl _) _)⟩
theorem bx3_2 (w : World) (o : Op5) (s : Value) : BoxO (bx3 w o s) (w.heap.size + 1 + 1) opZ nilS ∧ FrO (bx3 w o s) (w.heap.size + 1 + 1) := by
  have h1 := BoxO.new ((w.alloc (.cells (opC o s) 46)).alloc (.cells (opC opZ nilS) 46)) opZ nilS
  have h2 := FrO.new ((w.alloc (.cells (opC o s) 46)).alloc (.cells (opC opZ nilS) 46)) opZ nilS
  rw [World.size_alloc, World.size_alloc] at h1 h2
  exact ⟨h1, h2⟩

theorem heap_set7 {B k : Nat} (w' : World) (hk : k ≠ B) (v0 v1 v2 v3 v4 v5 v6 : Value) :
    (((((((w'.setCell ⟨B, 0, none⟩ v0).setCell ⟨B, 1, none⟩ v1).setCell ⟨B, 2, none⟩ v2).setCell ⟨B, 3, none⟩ v3).setCell ⟨B, 4, none⟩ v4).setCell ⟨B, 5, none⟩ v5).setCell ⟨B, 6, none⟩ v6).heap[k]? = w'.heap[k]? := by
  have h : ∀ (W : World) (j : Nat) (v : Value), (W.setCell ⟨B, j, none⟩ v).heap[k]? = W.heap[k]? := fun W j v => Below.heap_setCell _ _ _ _ hk
  rw [h, h, h, h, h, h, h]
theorem cell_set7 {B k j : Nat} (w' : World) (hk : k ≠ B) (v0 v1 v2 v3 v4 v5 v6 : Value) :
    (((((((w'.setCell ⟨B, 0, none⟩ v0).setCell ⟨B, 1, none⟩ v1).setCell ⟨B, 2, none⟩ v2).setCell ⟨B, 3, none⟩ v3).setCell ⟨B, 4, none⟩ v4).setCell ⟨B, 5, none⟩ v5).setCell ⟨B, 6, none⟩ v6).cell? ⟨k, j, none⟩ = w'.cell? ⟨k, j, none⟩ :=
  World.cell?_of_block (a := ⟨k, j, none⟩) (heap_set7 w' hk v0 v1 v2 v3 v4 v5 v6)
theorem below_set7 {b B : Nat} {w w' : World} (h : Below b w w') (hB : b ≤ B) (v0 v1 v2 v3 v4 v5 v6 : Value) :
    Below b w (((((((w'.setCell ⟨B, 0, none⟩ v0).setCell ⟨B, 1, none⟩ v1).setCell ⟨B, 2, none⟩ v2).setCell ⟨B, 3, none⟩ v3).setCell ⟨B, 4, none⟩ v4).setCell ⟨B, 5, none⟩ v5).setCell ⟨B, 6, none⟩ v6) :=
  ((((((h.setCell hB _).setCell hB _).setCell hB _).setCell hB _).setCell hB _).setCell hB _).setCell hB _

end Go.Proofs.YtgimcloadjjefabGreatDoor

/- What content.Cut answers of a text that can be cut. -/
namespace Go.Proofs.YtgimcloadjjefabGreatDoor
open Go Go.RowKit Go.Lib
set_option linter.unusedVariables false
end Go.Proofs.YtgimcloadjjefabGreatDoor

/- What content.Join answers. -/
namespace Go.Proofs.YtgimcloadjjefabGreatDoor
open Go Go.RowKit Go.Lib
set_option linter.unusedVariables false

/-- What a join of two is refused with. -/
def joinE (o o' : Op5) : Nat := if insE o = 0 then insE o' else insE o
/-- Whether two inserts are joined. -/
def joinB (o o' : Op5) : Bool := decide (o.k = 1) && (decide (o'.k = 1) && decide (o.A = o'.A))
def joinO (o o' : Op5) : Op5 := ⟨1, o.t ++ o'.t, z0, 0, o.A⟩
abbrev bxJ (w : World) (o : Op5) (s : Value) (o' : Op5) (s' : Value) : World := ((w.alloc (.cells (opC o s) 46)).alloc (.cells (opC o' s') 46)).alloc (.cells (opC opZ nilS) 46)
theorem bxJ_below (w : World) (o : Op5) (s : Value) (o' : Op5) (s' : Value) : Below w.heap.size w (bxJ w o s o' s') := (((Below.refl w.heap.size w).alloc (Nat.le_refl _) _).alloc (by simp) _).alloc (by simp; omega) _
theorem bxJ_1 (w : World) (o : Op5) (s : Value) (o' : Op5) (s' : Value) : BoxO (bxJ w o s o' s') (w.heap.size + 1) o' s' := by
  have h1 := BoxO.new (w.alloc (.cells (opC o s) 46)) o' s'
  rw [World.size_alloc] at h1
  exact h1.below ((Below.refl _ _).alloc (Nat.le_refl _) _)
theorem bxJ_2 (w : World) (o : Op5) (s : Value) (o' : Op5) (s' : Value) : BoxO (bxJ w o s o' s') (w.heap.size + 1 + 1) opZ nilS ∧ FrO (bxJ w o s o' s') (w.heap.size + 1 + 1) := by
  have h1 := BoxO.new ((w.alloc (.cells (opC o s) 46)).alloc (.cells (opC o' s') 46)) opZ nilS
  have h2 := FrO.new ((w.alloc (.cells (opC o s) 46)).alloc (.cells (opC o' s') 46)) opZ nilS
  rw [World.size_alloc, World.size_alloc] at h1 h2
  exact ⟨h1, h2⟩

end Go.Proofs.YtgimcloadjjefabGreatDoor

/- content.textCells: the cells of a text. -/
namespace Go.Proofs.YtgimcloadjjefabGreatDoor
open Go Go.RowKit Go.Lib
set_option linter.unusedVariables false

/-- Cells of scalars with one list. -/
def mkC (A : List A2) (rs : List Nat) : List C5 := rs.map fun (r : Nat) => (((r : Nat) : Int), ⟨#[]⟩, z0, A)
theorem mkC_len (A : List A2) (rs : List Nat) : (mkC A rs).length = rs.length := by simp [mkC]
theorem keepA_iterAt {w : World} {K : Nat} {s : ByteArray} {p0 : Nat} (hk : w.heap[K]? = some (.stringIter s p0)) (p : Nat) : KeepA w (w.iterAt K s p) := fun k cur hc => by
  have hne : k ≠ K := fun e => by subst e; rw [hk] at hc; cases hc
  simp [World.iterAt, Ne.symm hne]
end Go.Proofs.YtgimcloadjjefabGreatDoor

/- What the values' methods answer: Kind, Plain; how values of the interface compare. -/
namespace Go.Proofs.YtgimcloadjjefabGreatDoor
open Go Go.RowKit Go.Lib
set_option linter.unusedVariables false
theorem plain_n (w : World) : Calls Tryz.prog 147 #[.agg #[]] w fun e w' => e = .returned (pl 0 0 ⟨#[]⟩) ∧ Below w.heap.size w w' := by
  go_enter Tryz.func147, Tryz.ntmps147
  go_wp2
  exact bodyPost_ret (v := pl 0 0 ⟨#[]⟩) (by simp [results, Tryz.results147, go_sem]) rfl ⟨rfl, by go_grown⟩
theorem plain_f (b : Bool) (w : World) : Calls Tryz.prog 141 #[.bool b] w fun e w' => e = .returned (pl 1 (if b then 1 else 0) ⟨#[]⟩) ∧ Below w.heap.size w w' := by
  cases b
  · go_enter Tryz.func141, Tryz.ntmps141
    go_wp2
    exact bodyPost_ret (v := pl 1 0 ⟨#[]⟩) (by simp [results, Tryz.results141, go_sem]) rfl ⟨rfl, by go_grown⟩
  · go_enter Tryz.func141, Tryz.ntmps141
    go_wp2
    exact bodyPost_ret (v := pl 1 1 ⟨#[]⟩) (by simp [results, Tryz.results141, go_sem]) rfl ⟨rfl, by go_grown⟩
theorem plain_d (n : Int) (w : World) : Calls Tryz.prog 143 #[.int .i64 n] w fun e w' => e = .returned (pl 2 n ⟨#[]⟩) ∧ Below w.heap.size w w' := by
  go_enter Tryz.func143, Tryz.ntmps143
  go_wp2
  exact bodyPost_ret (v := pl 2 n ⟨#[]⟩) (by simp [results, Tryz.results143, go_sem]) rfl ⟨rfl, by go_grown⟩
theorem plain_t (t : ByteArray) (w : World) : Calls Tryz.prog 145 #[.string t] w fun e w' => e = .returned (pl 3 0 t) ∧ Below w.heap.size w w' := by
  go_enter Tryz.func145, Tryz.ntmps145
  go_wp2
  exact bodyPost_ret (v := pl 3 0 t) (by simp [results, Tryz.results145, go_sem]) rfl ⟨rfl, by go_grown⟩

/-! '==' at api.Value. -/
theorem compNull : (Tryz.prog.info? 155).map (·.comparable) = some true := by kernel_rfl
theorem compFlag : (Tryz.prog.info? 151).map (·.comparable) = some true := by kernel_rfl
theorem compNum : (Tryz.prog.info? 152).map (·.comparable) = some true := by kernel_rfl
theorem compText : (Tryz.prog.info? 153).map (·.comparable) = some true := by kernel_rfl

theorem eql_same_type {tx : TypeId} {vx vy : Value} {b : Bool} (w : World) (hc : (Tryz.prog.info? tx).map (·.comparable) = some true)
    (h : ∀ d : Nat, (Op.equalIn (d + 1) tx vx vy).run Tryz.prog w = .ok b w) : (binOp .eql 114 (.iface tx vx) (.iface tx vy)).run Tryz.prog w = .ok (.bool b) w := by
  cases hi : Tryz.prog.info? tx with
  | none => simp [hi] at hc
  | some i =>
    have hcc : i.comparable = true := by simpa [hi] using hc
    have h2 : ∀ d : Nat, (Op.equalIn (d + 2) 114 (.iface tx vx) (.iface tx vy)).run Tryz.prog w = .ok b w := fun d => by
      rw [Op.equalIn]
      simp [run_underlying Tryz.underlying114, typeInfo, hi, hcc, h d]
    simp only [binOp]
    simp [Op.equal, Op.maxDepth, h2 9998]

theorem eql_null (w : World) : (binOp .eql 114 (.iface 155 (.agg #[])) (.iface 155 (.agg #[]))).run Tryz.prog w = .ok (.bool true) w :=
  eql_same_type w compNull fun d => by
    rw [run_equalIn_agg w d 155 _ _ (by kernel_rfl) (by kernel_rfl)]
    simp [Program.fieldsOf, Tryz.underlying155, Op.eqFields]
theorem eql_flag (a b : Bool) (w : World) : (binOp .eql 114 (.iface 151 (.bool a)) (.iface 151 (.bool b))).run Tryz.prog w = .ok (.bool (a == b)) w :=
  eql_same_type w compFlag fun d => run_equalIn_bool' w d _ a b Tryz.underlying151
theorem eql_num (a b : Int) (w : World) : (binOp .eql 114 (.iface 152 (.int .i64 a)) (.iface 152 (.int .i64 b))).run Tryz.prog w = .ok (.bool (a == b)) w :=
  eql_same_type w compNum fun d => run_equalIn_int w d _ .i64 .i64 a b Tryz.underlying152
theorem eql_text (a b : ByteArray) (w : World) : (binOp .eql 114 (.iface 153 (.string a)) (.iface 153 (.string b))).run Tryz.prog w = .ok (.bool (a.toList == b.toList)) w :=
  eql_same_type w compText fun d => run_equalIn_string w d _ a b Tryz.underlying153
theorem eql_types {tx ty : TypeId} (vx vy : Value) (h : tx ≠ ty) (w : World) : (binOp .eql 114 (.iface tx vx) (.iface ty vy)).run Tryz.prog w = .ok (.bool false) w :=
  run_eql_iface_types tx ty vx vy Tryz.underlying114 h w
end Go.Proofs.YtgimcloadjjefabGreatDoor

/- What content.Cells and content.Newlines answer. -/
namespace Go.Proofs.YtgimcloadjjefabGreatDoor
open Go Go.RowKit Go.Lib
set_option linter.unusedVariables false

/-- An insert's cells. -/
def cellsOf (o : Op5) : List C5 := if o.k = 1 then mkC o.A (scs o.t.data.toList) else [(-1, o.t, o.v, o.A)]
theorem cellsOf_len (o : Op5) : (cellsOf o).length = lenO o := by
  unfold cellsOf lenO
  split
  · exact mkC_len _ _
  · rfl
theorem cellsOf_A (o : Op5) : ∀ e ∈ cellsOf o, e.2.2.2 = o.A := fun e he => by
  unfold cellsOf at he
  split at he
  · unfold mkC at he
    obtain ⟨r, _, rfl⟩ := List.mem_map.1 he
    rfl
  · obtain rfl := List.mem_singleton.1 he
    rfl
/-- How many newlines an insert has. -/
def newlO (o : Op5) : Nat := if o.k = 1 then countByte o.t.data.toList 10 else 0

theorem plain_f0 (w : World) : Calls Tryz.prog 141 #[.bool false] w fun e w' => e = .returned (pl 1 0 ⟨#[]⟩) ∧ Below w.heap.size w w' := plain_f false w
theorem plain_f1 (w : World) : Calls Tryz.prog 141 #[.bool true] w fun e w' => e = .returned (pl 1 1 ⟨#[]⟩) ∧ Below w.heap.size w w' := plain_f true w

end Go.Proofs.YtgimcloadjjefabGreatDoor

/- vellumlaw04.lives. -/
namespace Go.Proofs.YtgimcloadjjefabGreatDoor
open Go Go.RowKit Go.Lib
set_option linter.unusedVariables false

abbrev tA : ByteArray := ⟨#[97, 195, 169, 226, 130, 172]⟩
abbrev tH : ByteArray := ⟨#[97, 195, 169]⟩
abbrev tR : ByteArray := ⟨#[226, 130, 172]⟩
abbrev tX : ByteArray := ⟨#[120]⟩
abbrev tB : ByteArray := ⟨#[98, 10]⟩
abbrev txO (t : ByteArray) : Op5 := ⟨1, t, z0, 0, []⟩
abbrev exO (t : ByteArray) : Op5 := ⟨2, t, z0, 0, []⟩
theorem ins_tx (t : ByteArray) (h1 : t.toList.isEmpty = false) (h2 : brk t.data.toList = t.size) : Ins (txO t) := ⟨Or.inl ⟨rfl, rfl⟩, h1, rfl, h2, chk_z0, rfl⟩
theorem ins_ex (t : ByteArray) (h1 : t.toList.isEmpty = false) (h2 : brk t.data.toList = t.size) (h3 : t.size ≤ 64) : Ins (exO t) := ⟨Or.inr ⟨rfl, h3⟩, h1, rfl, h2, chk_z0, rfl⟩
theorem fit_tx (k : Int) (t : ByteArray) (h : t.size ≤ 8388608) : Fit ⟨k, t, z0, 0, []⟩ := ⟨h, by show (0 : Nat) ≤ 1048576; decide, fun q hq => (by cases hq), by show (0 : Nat) ≤ 1048576; decide⟩
theorem iA : Ins (txO tA) := ins_tx _ (by rw [toList_data]; rfl) (by kernel_rfl)
theorem iH : Ins (txO tH) := ins_tx _ (by rw [toList_data]; rfl) (by kernel_rfl)
theorem iR : Ins (txO tR) := ins_tx _ (by rw [toList_data]; rfl) (by kernel_rfl)
theorem iB : Ins (txO tB) := ins_tx _ (by rw [toList_data]; rfl) (by kernel_rfl)
theorem iX : Ins (exO tX) := ins_ex _ (by rw [toList_data]; rfl) (by kernel_rfl) (by decide)
theorem scsA : scs tA.data.toList = [97, 233, 8364] := by kernel_rfl
theorem scsB : scs tB.data.toList = [98, 10] := by kernel_rfl
theorem posA : pos (scs tA.data.toList) 2 = 3 := by rw [scsA]; kernel_rfl
theorem extH : tA.extract 0 3 = tH := by kernel_rfl
theorem extR : tA.extract 3 tA.size = tR := by kernel_rfl
theorem catA : tH ++ tR = tA := by kernel_rfl
theorem newlB : newlO (txO tB) = 1 := by kernel_rfl
theorem lenX : lenO (exO tX) = 1 := rfl
theorem RN.val0 {w : World} {v : Value} (h : RN w v []) : ∃ p c, v = .slice p 0 c := by
  obtain ⟨p, c, h, _⟩ := h.row.val
  exact ⟨p, c, h⟩

end Go.Proofs.YtgimcloadjjefabGreatDoor

/- Joins of inserts, purely; Join at all operations. -/
namespace Go.Proofs.YtgimcloadjjefabGreatDoor
open Go Go.RowKit Go.Lib
set_option linter.unusedVariables false

theorem chkP_le (p : P3) : chkP p ≤ 10 := chk_le _ _ _
theorem listE_le' (nulls : Bool) : ∀ (L : List A2) (pv : Option ByteArray), listE nulls pv L ≤ 10
  | [], _ => Nat.zero_le _
  | q :: r, pv => by
    have hp : pairE q ≤ 10 := by
      unfold pairE
      split
      · omega
      · split
        · omega
        · exact chk_le _ _ _
    rw [listE]
    split
    · split
      · omega
      · split
        · exact listE_le' nulls r _
        · omega
    · exact hp
theorem insE_le19 (o : Op5) : insE o ≤ 19 := by
  have := insE_le o (fun L => listE_le' false L none)
  omega
theorem joinE_le (o o' : Op5) : joinE o o' ≤ 19 := by
  unfold joinE
  have := insE_le19 o
  have := insE_le19 o'
  split <;> omega
def jB (o o' : Op5) : Bool := decide (joinE o o' = 0) && joinB o o'
def jR (o o' : Op5) : Op5 := if jB o o' = true then joinO o o' else opZ
theorem jB_yes {o o' : Op5} (h : jB o o' = true) : Ins o ∧ Ins o' ∧ o.k = 1 ∧ o'.k = 1 ∧ o.A = o'.A := by
  unfold jB joinB joinE at h
  simp only [Bool.and_eq_true, decide_eq_true_eq] at h
  obtain ⟨h1, h2, h3, h4⟩ := h
  by_cases hi : insE o = 0
  · rw [if_pos hi] at h1
    exact ⟨ins_of hi, ins_of h1, h2, h3, h4⟩
  · rw [if_neg hi] at h1
    exact absurd h1 hi
theorem jB_of {o o' : Op5} (h : Ins o) (h' : Ins o') (hk : o.k = 1) (hk' : o'.k = 1) (hA : o.A = o'.A) : jB o o' = true := by
  unfold jB joinB joinE
  simp [h.zero, h'.zero, hk, hk', hA]
theorem jB_no {o o' : Op5} (h : ¬ (o.k = 1 ∧ o'.k = 1 ∧ o.A = o'.A)) : jB o o' = false := by
  cases hj : jB o o'
  · rfl
  · obtain ⟨_, _, h1, h2, h3⟩ := jB_yes hj
    exact absurd ⟨h1, h2, h3⟩ h
theorem jB_err {o o' : Op5} {e : Nat} (h : joinE o o' = e + 1) : jB o o' = false := by
  unfold jB
  simp [h]
theorem isEmp_size {t : ByteArray} (h : t.toList.isEmpty = false) : 0 < t.size := by
  rcases Nat.eq_zero_or_pos t.size with h0 | h0
  · exfalso
    have : t.toList = [] := by rw [toList_data]; exact List.eq_nil_of_length_eq_zero (by rw [size_toList]; exact h0)
    rw [this] at h; cases h
  · exact h0
theorem size_isEmp {t : ByteArray} (h : 0 < t.size) : t.toList.isEmpty = false := by
  cases he : t.toList.isEmpty
  · rfl
  · rw [emp_iff] at he
    subst he
    exact absurd h (by decide)
theorem cat_list (a b : ByteArray) : (a ++ b).data.toList = a.data.toList ++ b.data.toList := by rw [ByteArray.data_append, Array.toList_append]
theorem scs_cat {a b : List UInt8} (ha : brk a = a.length) (hb : brk b = b.length) : scs (a ++ b) = scs a ++ scs b ∧ brk (a ++ b) = (a ++ b).length := by
  have ea := valid_of_brk ha
  have eb := valid_of_brk hb
  obtain ⟨_, h1, _, _⟩ := text_cases a
  obtain ⟨_, h2, _, _⟩ := text_cases b
  have h12 : ∀ r ∈ scs a ++ scs b, scal r := fun r hr => by
    rcases List.mem_append.1 hr with h | h
    · exact h1 r h
    · exact h2 r h
  have e : a ++ b = encs (scs a ++ scs b) ++ [] := by
    rw [List.append_nil, encs_append, ← ea, ← eb]
  refine ⟨?_, ?_⟩
  · conv => lhs; rw [e]
    exact scs_eq h12 (Or.inl rfl)
  · conv => lhs; rw [e]
    rw [brk_eq h12 (Or.inl rfl), encs_append, ← ea, ← eb]
theorem ins_join {o o' : Op5} (h : Ins o) (h' : Ins o') : Ins (joinO o o') := by
  have hs : (o.t ++ o'.t).size = o.t.size + o'.t.size := ByteArray.size_append
  refine ⟨Or.inl ⟨rfl, rfl⟩, size_isEmp ?_, rfl, ?_, chk_z0, h.set⟩
  · have := isEmp_size h.full
    show 0 < (o.t ++ o'.t).size
    omega
  · show brk (o.t ++ o'.t).data.toList = (o.t ++ o'.t).size
    rw [cat_list, (scs_cat (by rw [h.utf, size_toList]) (by rw [h'.utf, size_toList])).2, List.length_append, size_toList, size_toList, hs]
theorem cells_join {o o' : Op5} (h : Ins o) (h' : Ins o') (hk : o.k = 1) (hk' : o'.k = 1) (hA : o.A = o'.A) : cellsOf (joinO o o') = cellsOf o ++ cellsOf o' := by
  unfold cellsOf
  rw [if_pos (show (joinO o o').k = 1 from rfl), if_pos hk, if_pos hk', ← hA]
  show mkC o.A (scs (o.t ++ o'.t).data.toList) = _
  rw [cat_list, (scs_cat (by rw [h.utf, size_toList]) (by rw [h'.utf, size_toList])).1]
  simp [mkC]
theorem join_assoc (x y z : Op5) : joinO (joinO x y) z = joinO x (joinO y z) := by
  unfold joinO
  simp only [ByteArray.append_assoc]
theorem fit_join {o o' : Op5} (h : Fit o) (hs : o.t.size + o'.t.size ≤ 8388608) : Fit (joinO o o') := ⟨by show (o.t ++ o'.t).size ≤ _; rw [ByteArray.size_append]; exact hs, by show (0 : Nat) ≤ 1048576; decide, h.A, h.n⟩
theorem fit_Z : Fit opZ := ⟨by show (0 : Nat) ≤ 8388608; decide, by show (0 : Nat) ≤ 1048576; decide, fun q hq => (by cases hq), by show (0 : Nat) ≤ 1048576; decide⟩

end Go.Proofs.YtgimcloadjjefabGreatDoor

/- Deltas unit by unit: what operations are, cell by cell and gap by gap; canonical lists are told apart by it. -/
namespace Go.Proofs.YtgimcloadjjefabGreatDoor
open Go Go.RowKit Go.Lib
set_option linter.unusedVariables false

/-- A unit of a delta: a cell that comes, a cell that stays with a patch, a cell that goes. -/
inductive U6 where
  | ins (c : C5)
  | keep (A : List A2)
  | del
/-- An operation that is well formed but for the upper bound of its count. -/
def Wel (o : Op5) : Prop := (Ins o ∧ (o.k = 1 ∨ o.k = 2)) ∨ (o.k = 3 ∧ o.t = ⟨#[]⟩ ∧ o.v = z0 ∧ 1 ≤ o.c ∧ listE true none o.A = 0) ∨ (o.k = 4 ∧ o.t = ⟨#[]⟩ ∧ o.v = z0 ∧ 1 ≤ o.c ∧ o.A = [])
theorem wel_of {o : Op5} (h : opE o = 0) : Wel o := by
  rcases op_good h with h | ⟨h1, h2, h3⟩ | ⟨h1, h2, h3⟩
  · exact Or.inl h
  · exact Or.inr (Or.inl ⟨h3, emp_iff.1 h1.text, h1.val, h1.lo, h2⟩)
  · exact Or.inr (Or.inr ⟨h3, emp_iff.1 h1.text, h1.val, h1.lo, h2⟩)
theorem Wel.good {o : Op5} (h : Wel o) (hc : o.c ≤ 1099511627776) : opE o = 0 := by
  rcases h with ⟨h1, h2⟩ | ⟨h1, h2, h3, h4, h5⟩ | ⟨h1, h2, h3, h4, h5⟩
  · unfold opE; rw [if_pos h2]; exact h1.zero
  · unfold opE
    rw [if_neg (by omega), if_pos h1, if_neg (by simpa using cnt_iff.2 ⟨emp_iff.2 h2, h3, h4, hc⟩)]
    exact h5
  · unfold opE
    rw [if_neg (by omega), if_neg (by omega), if_pos h1, if_neg (by simpa using h5)]
    exact cnt_iff.2 ⟨emp_iff.2 h2, h3, h4, hc⟩
theorem Wel.kinds {o : Op5} (h : Wel o) : o.k = 1 ∨ o.k = 2 ∨ o.k = 3 ∨ o.k = 4 := by
  rcases h with ⟨_, h⟩ | ⟨h, _⟩ | ⟨h, _⟩ <;> omega
/-- What an operation is, unit by unit. -/
def unitsO (o : Op5) : List U6 :=
  if o.k = 1 ∨ o.k = 2 then (cellsOf o).map .ins else if o.k = 3 then List.replicate o.c.toNat (.keep o.A) else List.replicate o.c.toNat .del
def units : List Op5 → List U6
  | [] => []
  | o :: r => unitsO o ++ units r
theorem units_append : ∀ E F : List Op5, units (E ++ F) = units E ++ units F
  | [], F => rfl
  | o :: r, F => by
    show unitsO o ++ units (r ++ F) = _
    rw [units_append r F, ← List.append_assoc]; rfl
theorem units_one (o : Op5) : units [o] = unitsO o := by show unitsO o ++ [] = _; rw [List.append_nil]

/-- May two units be of one operation? -/
def runB : U6 → U6 → Prop
  | .ins c, .ins d => 0 ≤ c.1 ∧ 0 ≤ d.1 ∧ c.2.2.2 = d.2.2.2
  | .keep A, .keep B => A = B
  | .del, .del => True
  | _, _ => False
instance (u v : U6) : Decidable (runB u v) := by cases u <;> cases v <;> unfold runB <;> infer_instance

theorem mem_cells1 {o : Op5} (hk : o.k = 1) {u : U6} (h : u ∈ (cellsOf o).map U6.ins) : ∃ r : Nat, u = .ins ((r : Int), ⟨#[]⟩, z0, o.A) := by
  obtain ⟨c, hc, rfl⟩ := List.mem_map.1 h
  unfold cellsOf at hc
  rw [if_pos hk, mkC] at hc
  obtain ⟨r, _, rfl⟩ := List.mem_map.1 hc
  exact ⟨r, rfl⟩
theorem cells2 {o : Op5} (hk : o.k = 2) : (cellsOf o).map U6.ins = [.ins (-1, o.t, o.v, o.A)] := by
  unfold cellsOf
  rw [if_neg (by omega)]; rfl
theorem scs_ne {t : ByteArray} (h : t.toList.isEmpty = false) (hb : brk t.data.toList = t.size) : scs t.data.toList ≠ [] := fun e => by
  have h1 := isEmp_size h
  unfold brk at hb
  rw [e] at hb
  simp [encs] at hb
  omega
/-- Every operation has a unit. -/
theorem unitsO_ne {o : Op5} (h : Wel o) : unitsO o ≠ [] := by
  unfold unitsO
  rcases h with ⟨h1, h2⟩ | ⟨h1, h2, h3, h4, h5⟩ | ⟨h1, h2, h3, h4, h5⟩
  · rw [if_pos h2]
    rcases h2 with h2 | h2
    · unfold cellsOf
      rw [if_pos h2, mkC]
      intro e
      rw [List.map_eq_nil_iff, List.map_eq_nil_iff] at e
      exact scs_ne h1.full h1.utf e
    · rw [cells2 h2]; simp
  · rw [if_neg (by omega), if_pos h1]
    intro e
    have := congrArg List.length e
    simp at this
    omega
  · rw [if_neg (by omega), if_neg (by omega)]
    intro e
    have := congrArg List.length e
    simp at this
    omega
/-- What a unit of an operation tells of it. -/
theorem unit_cases {o : Op5} (h : Wel o) {u : U6} (hu : u ∈ unitsO o) : (o.k = 1 ∧ ∃ r : Nat, u = .ins ((r : Int), ⟨#[]⟩, z0, o.A)) ∨ (o.k = 2 ∧ u = .ins (-1, o.t, o.v, o.A)) ∨ (o.k = 3 ∧ u = .keep o.A) ∨ (o.k = 4 ∧ u = .del) := by
  unfold unitsO at hu
  rcases h.kinds with hk | hk | hk | hk
  · rw [if_pos (Or.inl hk)] at hu
    exact Or.inl ⟨hk, mem_cells1 hk hu⟩
  · rw [if_pos (Or.inr hk), cells2 hk] at hu
    exact Or.inr (Or.inl ⟨hk, List.mem_singleton.1 hu⟩)
  · rw [if_neg (by omega), if_pos hk] at hu
    exact Or.inr (Or.inr (Or.inl ⟨hk, List.eq_of_mem_replicate hu⟩))
  · rw [if_neg (by omega), if_neg (by omega)] at hu
    exact Or.inr (Or.inr (Or.inr ⟨hk, List.eq_of_mem_replicate hu⟩))
theorem run_in {o : Op5} (h : Wel o) (hk : o.k ≠ 2) {u v : U6} (hu : u ∈ unitsO o) (hv : v ∈ unitsO o) : runB u v := by
  rcases unit_cases h hu with ⟨h1, r, rfl⟩ | ⟨h1, rfl⟩ | ⟨h1, rfl⟩ | ⟨h1, rfl⟩
  · rcases unit_cases h hv with ⟨h2, r', rfl⟩ | ⟨h2, rfl⟩ | ⟨h2, rfl⟩ | ⟨h2, rfl⟩
    · exact ⟨by simp, by simp, rfl⟩
    all_goals omega
  · exact absurd h1 hk
  · rcases unit_cases h hv with ⟨h2, r', rfl⟩ | ⟨h2, rfl⟩ | ⟨h2, rfl⟩ | ⟨h2, rfl⟩
    any_goals omega
    rfl
  · rcases unit_cases h hv with ⟨h2, r', rfl⟩ | ⟨h2, rfl⟩ | ⟨h2, rfl⟩ | ⟨h2, rfl⟩
    any_goals omega
    trivial
theorem run_apart {x y : Op5} (hx : Wel x) (hy : Wel y) (ha : apartB x y = true) {u v : U6} (hu : u ∈ unitsO x) (hv : v ∈ unitsO y) : ¬ runB u v := by
  unfold apartB at ha
  rcases unit_cases hx hu with ⟨h1, r, rfl⟩ | ⟨h1, rfl⟩ | ⟨h1, rfl⟩ | ⟨h1, rfl⟩ <;> rcases unit_cases hy hv with ⟨h2, r', rfl⟩ | ⟨h2, rfl⟩ | ⟨h2, rfl⟩ | ⟨h2, rfl⟩
  all_goals first | (intro h; cases h; done) | skip
  · rw [if_neg (by omega), if_neg (by omega)] at ha
    rintro ⟨_, _, h⟩
    simp only at h
    simp [h] at ha
  · rintro ⟨_, h, _⟩
    simp at h
  · rintro ⟨h, _, _⟩
    simp at h
  · rintro ⟨h, _, _⟩
    simp at h
  · rw [if_neg (by omega), if_neg (by omega)] at ha
    intro h
    have h : x.A = y.A := h
    simp [h] at ha
  · rw [if_pos h1, h2] at ha
    cases ha
theorem scs_injB {t t' : ByteArray} (h : brk t.data.toList = t.size) (h' : brk t'.data.toList = t'.size) (e : scs t.data.toList = scs t'.data.toList) : t = t' := by
  have e1 := valid_of_brk (l := t.data.toList) (by rw [h, size_toList])
  have e2 := valid_of_brk (l := t'.data.toList) (by rw [h', size_toList])
  apply ByteArray.ext
  apply Array.ext'
  rw [e1, e2, e]
theorem op_ext {x y : Op5} (h1 : x.k = y.k) (h2 : x.t = y.t) (h3 : x.v = y.v) (h4 : x.c = y.c) (h5 : x.A = y.A) : x = y := by
  cases x; cases y; simp only at h1 h2 h3 h4 h5; subst h1 h2 h3 h4 h5; rfl
/-- An operation is told by its units. -/
theorem unitsO_inj {x y : Op5} (hx : Wel x) (hy : Wel y) (h : unitsO x = unitsO y) : x = y := by
  obtain ⟨u, us, hu⟩ := List.exists_cons_of_ne_nil (unitsO_ne hx)
  have m1 : u ∈ unitsO x := by rw [hu]; exact List.mem_cons_self ..
  have m2 : u ∈ unitsO y := by rw [← h]; exact m1
  unfold unitsO at h
  rcases unit_cases hx m1 with ⟨h1, r, rfl⟩ | ⟨h1, rfl⟩ | ⟨h1, rfl⟩ | ⟨h1, rfl⟩ <;> rcases unit_cases hy m2 with ⟨h2, r', e⟩ | ⟨h2, e⟩ | ⟨h2, e⟩ | ⟨h2, e⟩
  any_goals (simp at e; done)
  · rw [if_pos (Or.inl h1), if_pos (Or.inl h2)] at h
    simp only [U6.ins.injEq, Prod.mk.injEq] at e
    obtain ⟨i1, _⟩ := hx.resolve_right (by rintro (h | h) <;> omega)
    obtain ⟨i2, _⟩ := hy.resolve_right (by rintro (h | h) <;> omega)
    unfold cellsOf at h
    rw [if_pos h1, if_pos h2, mkC, mkC, ← e.2.2.2, List.map_map, List.map_map] at h
    have := (List.map_inj_right (fun (a b : Nat) (hab : (U6.ins ((a : Int), (⟨#[]⟩ : ByteArray), z0, x.A)) = U6.ins ((b : Int), ⟨#[]⟩, z0, x.A)) => by
      simp only [U6.ins.injEq, Prod.mk.injEq] at hab
      exact Int.ofNat_inj.1 hab.1)).1 h
    refine op_ext (by omega) (scs_injB i1.utf i2.utf this) ?_ (by rw [i1.count, i2.count]) e.2.2.2
    rw [(i1.kind.resolve_right (by omega)).2, (i2.kind.resolve_right (by omega)).2]
  · simp only [U6.ins.injEq, Prod.mk.injEq] at e
    obtain ⟨i1, _⟩ := hx.resolve_right (by rintro (h | h) <;> omega)
    obtain ⟨i2, _⟩ := hy.resolve_right (by rintro (h | h) <;> omega)
    exact op_ext (by omega) e.2.1 e.2.2.1 (by rw [i1.count, i2.count]) e.2.2.2
  · rw [if_neg (by omega), if_pos h1, if_neg (by omega), if_pos h2] at h
    have hl := congrArg List.length h
    simp only [List.length_replicate] at hl
    obtain ⟨_, a1, a2, a3, _⟩ := (hx.resolve_left (fun h => by omega)).resolve_right (fun h => by omega)
    obtain ⟨_, b1, b2, b3, _⟩ := (hy.resolve_left (fun h => by omega)).resolve_right (fun h => by omega)
    simp only [U6.keep.injEq] at e
    exact op_ext (by omega) (by rw [a1, b1]) (by rw [a2, b2]) (by omega) e
  · rw [if_neg (by omega), if_neg (by omega), if_neg (by omega), if_neg (by omega)] at h
    have hl := congrArg List.length h
    simp only [List.length_replicate] at hl
    obtain ⟨_, a1, a2, a3, a4⟩ := (hx.resolve_left (fun h => by omega)).resolve_left (fun h => by omega)
    obtain ⟨_, b1, b2, b3, b4⟩ := (hy.resolve_left (fun h => by omega)).resolve_left (fun h => by omega)
    exact op_ext (by omega) (by rw [a1, b1]) (by rw [a2, b2]) (by omega) (by rw [a4, b4])
theorem takeWhile_run {p : U6 → Bool} : ∀ {a b : List U6}, (∀ v ∈ a, p v = true) → (∀ v, b.head? = some v → p v = false) → (a ++ b).takeWhile p = a
  | [], [], _, _ => rfl
  | [], v :: b, _, h => by rw [List.nil_append, List.takeWhile_cons, h v rfl]; rfl
  | u :: a, b, h, hb => by
    rw [List.cons_append, List.takeWhile_cons, h u (List.mem_cons_self ..)]
    simp only [if_true]
    rw [takeWhile_run (fun v hv => h v (List.mem_cons_of_mem _ hv)) hb]
theorem head_units {y : Op5} {r : List Op5} (hy : Wel y) {v : U6} (h : (units (y :: r)).head? = some v) : v ∈ unitsO y := by
  obtain ⟨u, us, hu⟩ := List.exists_cons_of_ne_nil (unitsO_ne hy)
  have : (units (y :: r)).head? = some u := by show (unitsO y ++ units r).head? = _; rw [hu]; rfl
  rw [this] at h
  obtain rfl := Option.some.inj h
  rw [hu]; exact List.mem_cons_self ..
theorem chain_tail {x : Op5} {r : List Op5} (h : chainB (x :: r) = true) : chainB r = true := by
  cases r with
  | nil => rfl
  | cons y r => rw [chainB, Bool.and_eq_true] at h; exact h.2
/-- **Lists in which no two neighbours might be one are told by their units.** -/
theorem units_inj : ∀ {E F : List Op5}, (∀ o ∈ E, Wel o) → (∀ o ∈ F, Wel o) → chainB E = true → chainB F = true → units E = units F → E = F
  | [], [], _, _, _, _, _ => rfl
  | [], y :: s, _, hF, _, _, h => by
    exfalso
    have := unitsO_ne (hF y (List.mem_cons_self ..))
    have h : [] = unitsO y ++ units s := h
    exact this (List.append_eq_nil_iff.1 h.symm).1
  | x :: r, [], hE, _, _, _, h => by
    exfalso
    have := unitsO_ne (hE x (List.mem_cons_self ..))
    have h : unitsO x ++ units r = [] := h
    exact this (List.append_eq_nil_iff.1 h).1
  | x :: r, y :: s, hE, hF, cE, cF, h => by
    have wx := hE x (List.mem_cons_self ..)
    have wy := hF y (List.mem_cons_self ..)
    have h' : unitsO x ++ units r = unitsO y ++ units s := h
    have run : ∀ {z : Op5} {q : List Op5} (hz : Wel z) (hq : ∀ o ∈ q, Wel o) (hc : chainB (z :: q) = true) (hk : z.k ≠ 2) (u : U6) (hu : u ∈ unitsO z), (unitsO z ++ units q).takeWhile (fun v => decide (runB u v)) = unitsO z := fun {z q} hz hq hc hk u hu => by
      refine takeWhile_run (fun v hv => decide_eq_true (run_in hz hk hu hv)) (fun v hv => decide_eq_false ?_)
      cases q with
      | nil => cases hv
      | cons w q =>
        have ww := hq w (List.mem_cons_self ..)
        rw [chainB, Bool.and_eq_true] at hc
        exact run_apart hz ww hc.1 hu (head_units ww hv)
    obtain ⟨u, us, hu⟩ := List.exists_cons_of_ne_nil (unitsO_ne wx)
    obtain ⟨u', us', hu'⟩ := List.exists_cons_of_ne_nil (unitsO_ne wy)
    obtain rfl : u = u' := by rw [hu, hu'] at h'; exact (List.cons.inj h').1
    have m1 : u ∈ unitsO x := by rw [hu]; exact List.mem_cons_self ..
    have m2 : u ∈ unitsO y := by rw [hu']; exact List.mem_cons_self ..
    have e : unitsO x = unitsO y := by
      by_cases hx2 : x.k = 2
      · by_cases hy2 : y.k = 2
        · rcases unit_cases wx m1 with ⟨h1, _⟩ | ⟨h1, e1⟩ | ⟨h1, _⟩ | ⟨h1, _⟩
          any_goals omega
          rcases unit_cases wy m2 with ⟨h2, _⟩ | ⟨h2, e2⟩ | ⟨h2, _⟩ | ⟨h2, _⟩
          any_goals omega
          unfold unitsO
          rw [if_pos (Or.inr hx2), if_pos (Or.inr hy2), cells2 hx2, cells2 hy2, ← e1, ← e2]
        · exfalso
          have := run_in wy hy2 m2 m2
          rcases unit_cases wx m1 with ⟨h1, _⟩ | ⟨h1, e1⟩ | ⟨h1, _⟩ | ⟨h1, _⟩
          any_goals omega
          rw [e1] at this
          have h0 : (0 : Int) ≤ -1 := this.1
          omega
      · by_cases hy2 : y.k = 2
        · exfalso
          have := run_in wx hx2 m1 m1
          rcases unit_cases wy m2 with ⟨h1, _⟩ | ⟨h1, e1⟩ | ⟨h1, _⟩ | ⟨h1, _⟩
          any_goals omega
          rw [e1] at this
          have h0 : (0 : Int) ≤ -1 := this.1
          omega
        · rw [← run wx (fun o ho => hE o (List.mem_cons_of_mem _ ho)) cE hx2 u m1, h', run wy (fun o ho => hF o (List.mem_cons_of_mem _ ho)) cF hy2 u m2]
    rw [unitsO_inj wx wy e]
    rw [e] at h'
    rw [units_inj (fun o ho => hE o (List.mem_cons_of_mem _ ho)) (fun o ho => hF o (List.mem_cons_of_mem _ ho)) (chain_tail cE) (chain_tail cF) (List.append_cancel_left h')]
end Go.Proofs.YtgimcloadjjefabGreatDoor
