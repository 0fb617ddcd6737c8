/- What vellumref04.Refuse and Check answer: what an insert is refused with. What vellumref04.SameCell and SameCells answer: whether the cells are the same. What content.Cut answers. What content.Cut answers of a text that can be cut. What content.Join answers. content.textCells: the cells of a text. What the values' methods answer: Kind, Plain; how values of the interface compare. What content.Cells and content.Newlines answer. vellumlaw04.lives. Joins of inserts, purely; Join at all operations. What vellumref04.copied and vellumref04.Join answer. What vellumref04.Length answers of inserts. What vellumref04.Length, Cells and Newlines answer of inserts. The document's deltas: Same, SameOp, Insert, Len. The errors' numbers: what vellumnum.list and vellumnum.Num answer where all nineteen sentinels lie as laid. vellumhand.Kept and vellumlaw03.same. Operations as new memory: appends of rows of operations; vellumlaw05.copied. ops: what a piece bears; plain retains; what may follow what. A builder in memory: what stands while it is written; the strings.Builder that it bears. ops.Canonical. Deltas unit by unit: what operations are, cell by cell and gap by gap; canonical lists are told apart by it. The canonical list of operations: its units are theirs, each gap's inserts ahead of its deletes. -/
import Derived.Test.YtfllomfjhkgaoaaGreatDoorSw
import Derived.Test.YtfllomfjhkgaoaaGreatDoorMga
import Derived.Test.YtfllomfjhkgaoaaGreatDoorCc
import Derived.Deep.RegionHeld3
import Derived.Test.YtfllomfjhkgaoaaGreatDoorCq
import Derived.BigRegion
import Derived.Deep.DeepCutAuto
import Derived.Laws.MakeOwn
import Derived.Test.YtfllomfjhkgaoaaGreatDoorVs
import Derived.Test.YtfllomfjhkgaoaaGreatDoorVf
import Derived.Test.YtfllomfjhkgaoaaGreatDoorCf
import Derived.Test.YtfllomfjhkgaoaaGreatDoorEr
import Derived.Test.YtfllomfjhkgaoaaGreatDoorQd
import Derived.Test.YtfllomfjhkgaoaaGreatDoorSm
import Derived.Lib.FrozenHead2
import Derived.Lib.UnsafeStr
import Derived.Lib.OthersKept

/- What vellumref04.Refuse and Check answer: what an insert is refused with. -/
namespace Go.Proofs.YtfllomfjhkgaoaaGreatDoor
open Go Go.RowKit Go.Lib
set_option linter.unusedVariables false

theorem Fit.tiny {o : Op5} (h : Fit o) : Tiny o.A := h.A

set_option maxHeartbeats 2000000 in
theorem ref_ins {I : List Nat} {a : Nat → Addr} (o : Op5) (s : Value) (w : World) (hS : Std I a w) (hR : RN w s o.A) (hF : Fit o) :
    Calls Tryz.prog 63 #[opV o s] w fun r w' => r = .returned (.int .i64 (insE o)) ∧ Below w.heap.size w w' := by
  have b0 := (Below.refl w.heap.size w).alloc (Nat.le_refl _) (.cells (opC o s) 48)
  have D0 := BoxO.new w o s
  have cU : Hid (∀ b, decide (brk o.t.data.toList = o.t.size) = b → ∀ W, Calls Tryz.prog 78 #[.string o.t] W fun r w' => r = .returned (.bool b) ∧ Below W.heap.size W w') := fun b hb W => ref_utf8 o.t W (by have := hF.t; omega) b hb
  have cV : Hid (∀ W, Calls Tryz.prog 73 #[pl o.v.1 o.v.2.1 o.v.2.2] W fun r w' => r = .returned (.int .i64 (chkP o.v)) ∧ Below W.heap.size W w') := fun W => ref_chk _ _ _ W (by have := hF.v; omega)
  have cA : Hid (∀ W, Below w.heap.size w W → Calls Tryz.prog 26 #[s, .bool false] W fun r w' => r = .returned (.int .i64 (listE false none o.A)) ∧ Below W.heap.size W w') := fun W hW => ref_check s o.A false W (hS.below hW) (hR.row.below hW) hF.tiny (by have := hF.n; omega)
  obtain ⟨E, hE⟩ : ∃ E, insE o = E := ⟨_, rfl⟩
  rw [hE]
  obtain ⟨V, hV⟩ : ∃ V, chkP o.v = V := ⟨_, rfl⟩
  obtain ⟨L, hL⟩ : ∃ L, listE false none o.A = L := ⟨_, rfl⟩
  rw [hV] at cV
  rw [hL] at cA
  have hE' : E = if fldE o ≠ 0 then fldE o else if brk o.t.data.toList ≠ o.t.size then 1 else if V ≠ 0 then V else L := by rw [← hE, ← hV, ← hL]; rfl
  have hz : o.v = z0 → V = 0 := fun h => by rw [← hV, h]; exact chk_z0
  obtain ⟨U, hU⟩ : ∃ U, decide (brk o.t.data.toList = o.t.size) = U := ⟨_, rfl⟩
  have hU' : (brk o.t.data.toList ≠ o.t.size) = (U = false) := by rw [← hU]; simp
  simp only [hU'] at hE'
  have cU : Hid (∀ W, Calls Tryz.prog 78 #[.string o.t] W fun r w' => r = .returned (.bool U) ∧ Below W.heap.size W w') := cU.out U hU
  clear hE hV hL hU hU' hF hS hR
  have HD : Hid (BoxO (w.alloc (.cells (opC o s) 48)) w.heap.size o s) := D0
  have HA : Hid (∀ W, Below (w.alloc (.cells (opC o s) 48)).heap.size (w.alloc (.cells (opC o s) 48)) W → Calls Tryz.prog 26 #[s, .bool false] W fun r w' => r = .returned (.int .i64 L) ∧ Below W.heap.size W w') := fun W hW => cA.out W (b0.trans (hW.mono b0.size))
  clear cA
  obtain ⟨k, t, ⟨x, n, u⟩, c, A⟩ := o
  obtain ⟨d0, d1, d2, d3, d4, d5, d6⟩ := D0
  simp only at d0 d1 d2 d3 d4 d5 d6 cU cV hz
  simp only [opC] at b0 d0 d1 d2 d3 d4 d5 d6 HD HA
  have gd := fun op x' y' w => guard_pl op x' y' (x, n, u) (0, 0, ⟨#[]⟩) w
  unfold fldE at hE'
  simp only at hE'
  have fin : ∀ w2, Below (w.alloc (.cells #[.int .i64 k, .string t, .int .i64 x, .int .i64 n, .string u, .int .i64 c, s] 48)).heap.size (w.alloc (.cells #[.int .i64 k, .string t, .int .i64 x, .int .i64 n, .string u, .int .i64 c, s] 48)) w2 → Below w.heap.size w w2 := fun w2 h => b0.trans (h.mono b0.size)
  by_cases k1 : k = 1
  · subst k1
    by_cases c0 : c = 0
    · subst c0
      cases he : t.toList.isEmpty with
      | true =>
        have hE2 : E = 9 := by rw [hE']; simp [he]
        subst hE2
        clear gd cU cV HA hz hE' HD fin
        go_enter Tryz.func63, Tryz.ntmps63
        go_wp2
        go_ret
        exact ⟨rfl, b0⟩
      | false =>
        by_cases hz0 : (x, n, u) = z0
        · have hne := neq_pl (x, n, u) (0, 0, ⟨#[]⟩) false (by rw [hz0]; show (!samP z0 z0) = false; rw [samP_self]; rfl)
          have hV0 := hz hz0
          cases U with
          | false =>
            have hE2 : E = 1 := by rw [hE']; simp [he, hz0]
            subst hE2
            clear hz hz0 hV0 cV HA hE' HD
            go_enter Tryz.func63, Tryz.ntmps63
            go_wp2_with fail
            refine (cU.out _).mono ?_; rintro r w2 ⟨rfl, h2⟩
            have b2 := fin _ h2
            go_wp2
            go_ret
            exact ⟨rfl, b2⟩
          | true =>
            have hE2 : E = L := by rw [hE', hV0]; simp [he, hz0]
            subst hE2
            clear hz hz0 hV0 cV hE'
            go_enter Tryz.func63, Tryz.ntmps63
            go_wp2_with fail
            refine (cU.out _).mono ?_; rintro r w2 ⟨rfl, h2⟩
            obtain ⟨p0, p1, p2, p3, p4, p5, p6⟩ := HD.out.below h2
            simp only at p0 p1 p2 p3 p4 p5 p6
            have c2 := HA.out _ h2
            have b2 := fin _ h2
            clear d0 d1 d2 d3 d4 d5 d6 h2
            go_wp2_with fail
            refine c2.mono ?_; rintro r w3 ⟨rfl, h3⟩
            go_wp2
            go_ret
            exact ⟨rfl, b2.trans (h3.mono b2.size)⟩
        · have hne := neq_pl (x, n, u) (0, 0, ⟨#[]⟩) true (by show (!samP (x, n, u) z0) = true; rw [samP_ne hz0]; rfl)
          have hE2 : E = 9 := by rw [hE']; simp [he, hz0]
          subst hE2
          clear hz hz0 cV cU HA hE' HD fin
          go_enter Tryz.func63, Tryz.ntmps63
          go_wp2
          go_ret
          exact ⟨rfl, b0⟩
    · have hc : (c == 0) = false := by simpa using c0
      have hE2 : E = 9 := by rw [hE']; simp [c0]
      subst hE2
      clear hz cV cU HA hE' HD fin c0
      go_enter Tryz.func63, Tryz.ntmps63
      go_wp2
      go_ret
      exact ⟨rfl, b0⟩
  · have hk1 : (k != 1) = true := by simpa using k1
    by_cases k2 : k = 2
    · subst k2
      clear hk1 k1
      by_cases c0 : c = 0
      · subst c0
        cases he : t.toList.isEmpty with
        | true =>
          have hE2 : E = 6 := by rw [hE']; simp [he]
          subst hE2
          clear gd cU cV HA hz hE' HD fin
          go_enter Tryz.func63, Tryz.ntmps63
          go_wp2
          go_ret
          exact ⟨rfl, b0⟩
        | false =>
          by_cases h64 : 64 < t.size
          · have h64I : (64 : Int) < (t.size : Int) := by omega
            have hE2 : E = 6 := by rw [hE']; simp [he, h64]
            subst hE2
            clear gd cU cV HA hz hE' HD fin
            go_enter Tryz.func63, Tryz.ntmps63
            go_wp2
            go_ret
            exact ⟨rfl, b0⟩
          · have h64I : ¬ (64 : Int) < (t.size : Int) := by omega
            cases U with
            | false =>
              have hE2 : E = 1 := by rw [hE']; simp [he, h64]
              subst hE2
              clear hz cV HA hE' HD gd
              go_enter Tryz.func63, Tryz.ntmps63
              go_wp2_with fail
              refine (cU.out _).mono ?_; rintro r w2 ⟨rfl, h2⟩
              have b2 := fin _ h2
              go_wp2
              go_ret
              exact ⟨rfl, b2⟩
            | true =>
              by_cases hV : V = 0
              · have hE2 : E = L := by rw [hE']; simp [he, h64, hV]
                subst hE2
                subst hV
                clear hz hE' gd
                go_enter Tryz.func63, Tryz.ntmps63
                go_wp2_with fail
                refine (cU.out _).mono ?_; rintro r w2 ⟨rfl, h2⟩
                obtain ⟨p0, p1, p2, p3, p4, p5, p6⟩ := HD.out.below h2
                simp only at p0 p1 p2 p3 p4 p5 p6
                clear d0 d1 d2 d3 d4 d5 d6
                go_wp2_with fail
                refine (cV.out _).mono ?_; rintro r w3 ⟨rfl, h3⟩
                have h23 := h2.trans (h3.mono h2.size)
                obtain ⟨q0, q1, q2, q3, q4, q5, q6⟩ := HD.out.below h23
                simp only at q0 q1 q2 q3 q4 q5 q6
                have c2 := HA.out _ h23
                have b3 := fin _ h23
                clear p0 p1 p2 p3 p4 p5 p6 h2 h3 h23
                go_wp2_with fail
                refine c2.mono ?_; rintro r w4 ⟨rfl, h4⟩
                go_wp2
                go_ret
                exact ⟨rfl, b3.trans (h4.mono b3.size)⟩
              · have hE2 : E = V := by rw [hE']; simp [he, h64, hV]
                subst hE2
                have hVI : ((E : Int) == 0) = false := by simp; omega
                clear hz hE' gd HA
                go_enter Tryz.func63, Tryz.ntmps63
                go_wp2_with fail
                refine (cU.out _).mono ?_; rintro r w2 ⟨rfl, h2⟩
                obtain ⟨p0, p1, p2, p3, p4, p5, p6⟩ := HD.out.below h2
                simp only at p0 p1 p2 p3 p4 p5 p6
                clear d0 d1 d2 d3 d4 d5 d6
                go_wp2_with fail
                refine (cV.out _).mono ?_; rintro r w3 ⟨rfl, h3⟩
                have b3 := fin _ (h2.trans (h3.mono h2.size))
                go_wp2
                go_ret
                exact ⟨rfl, b3⟩
      · have hc : (c == 0) = false := by simpa using c0
        have hE2 : E = 9 := by rw [hE']; simp [c0]
        subst hE2
        clear hz cV cU HA hE' HD fin c0 gd
        go_enter Tryz.func63, Tryz.ntmps63
        go_wp2
        go_ret
        exact ⟨rfl, b0⟩
    · have hk2 : (k != 2) = true := by simpa using k2
      have hE2 : E = 5 := by rw [hE']; simp [k1, k2]
      subst hE2
      clear hz cV cU HA hE' HD fin gd k1 k2
      go_enter Tryz.func63, Tryz.ntmps63
      go_wp2
      go_ret
      exact ⟨rfl, b0⟩
end Go.Proofs.YtfllomfjhkgaoaaGreatDoor

/- What vellumref04.SameCell and SameCells answer: whether the cells are the same. -/
namespace Go.Proofs.YtfllomfjhkgaoaaGreatDoor
open Go Go.RowKit Go.Lib
set_option linter.unusedVariables false

abbrev ceC (d : CV) : Array Value := #[.int .i32 d.1, .string d.2.1, .int .i64 d.2.2.1.1, .int .i64 d.2.2.1.2.1, .string d.2.2.1.2.2, slV d.2.2.2]
end Go.Proofs.YtfllomfjhkgaoaaGreatDoor

/- What content.Cut answers. -/
namespace Go.Proofs.YtfllomfjhkgaoaaGreatDoor
open Go Go.RowKit Go.Lib
set_option linter.unusedVariables false

/-- The three boxes of a call that answers two operations. -/
abbrev bx3 (w : World) (o : Op5) (s : Value) : World := ((w.alloc (.cells (opC o s) 48)).alloc (.cells (opC opZ nilS) 48)).alloc (.cells (opC opZ nilS) 48)
theorem bx3_below (w : World) (o : Op5) (s : Value) : Below w.heap.size w (bx3 w o s) := (((Below.refl w.heap.size w).alloc (Nat.le_refl _) _).alloc (by simp) _).alloc (by simp; omega) _
theorem bx3_0 (w : World) (o : Op5) (s : Value) : BoxO (bx3 w o s) w.heap.size o s := ((BoxO.new w o s).below ((Below.refl _ _).alloc (Nat.le_refl _) _)).below ((Below.refl _ _).alloc (Nat.le_refl _) _)
theorem bx3_1 (w : World) (o : Op5) (s : Value) : BoxO (bx3 w o s) (w.heap.size + 1) opZ nilS ∧ FrO (bx3 w o s) (w.heap.size + 1) := by
  have h1 := BoxO.new (w.alloc (.cells (opC o s) 48)) opZ nilS
  have h2 := FrO.new (w.alloc (.cells (opC o s) 48)) opZ nilS
  rw [World.size_alloc] at h1 h2
  exact ⟨h1.below ((Below.refl _ _).alloc (Nat.le_refl _) _), h2.below h1 ((Below.refl _ _).alloc (Nat.le_refl _) _)⟩
theorem bx3_2 (w : World) (o : Op5) (s : Value) : BoxO (bx3 w o s) (w.heap.size + 1 + 1) opZ nilS ∧ FrO (bx3 w o s) (w.heap.size + 1 + 1) := by
  have h1 := BoxO.new ((w.alloc (.cells (opC o s) 48)).alloc (.cells (opC opZ nilS) 48)) opZ nilS
  have h2 := FrO.new ((w.alloc (.cells (opC o s) 48)).alloc (.cells (opC opZ nilS) 48)) opZ nilS
  rw [World.size_alloc, World.size_alloc] at h1 h2
  exact ⟨h1, h2⟩

theorem heap_set7 {B k : Nat} (w' : World) (hk : k ≠ B) (v0 v1 v2 v3 v4 v5 v6 : Value) :
    (((((((w'.setCell ⟨B, 0, none⟩ v0).setCell ⟨B, 1, none⟩ v1).setCell ⟨B, 2, none⟩ v2).setCell ⟨B, 3, none⟩ v3).setCell ⟨B, 4, none⟩ v4).setCell ⟨B, 5, none⟩ v5).setCell ⟨B, 6, none⟩ v6).heap[k]? = w'.heap[k]? := by
  have h : ∀ (W : World) (j : Nat) (v : Value), (W.setCell ⟨B, j, none⟩ v).heap[k]? = W.heap[k]? := fun W j v => Below.heap_setCell _ _ _ _ hk
  rw [h, h, h, h, h, h, h]
theorem cell_set7 {B k j : Nat} (w' : World) (hk : k ≠ B) (v0 v1 v2 v3 v4 v5 v6 : Value) :
    (((((((w'.setCell ⟨B, 0, none⟩ v0).setCell ⟨B, 1, none⟩ v1).setCell ⟨B, 2, none⟩ v2).setCell ⟨B, 3, none⟩ v3).setCell ⟨B, 4, none⟩ v4).setCell ⟨B, 5, none⟩ v5).setCell ⟨B, 6, none⟩ v6).cell? ⟨k, j, none⟩ = w'.cell? ⟨k, j, none⟩ :=
  World.cell?_of_block (a := ⟨k, j, none⟩) (heap_set7 w' hk v0 v1 v2 v3 v4 v5 v6)
theorem below_set7 {b B : Nat} {w w' : World} (h : Below b w w') (hB : b ≤ B) (v0 v1 v2 v3 v4 v5 v6 : Value) :
    Below b w (((((((w'.setCell ⟨B, 0, none⟩ v0).setCell ⟨B, 1, none⟩ v1).setCell ⟨B, 2, none⟩ v2).setCell ⟨B, 3, none⟩ v3).setCell ⟨B, 4, none⟩ v4).setCell ⟨B, 5, none⟩ v5).setCell ⟨B, 6, none⟩ v6) :=
  ((((((h.setCell hB _).setCell hB _).setCell hB _).setCell hB _).setCell hB _).setCell hB _).setCell hB _

end Go.Proofs.YtfllomfjhkgaoaaGreatDoor

/- What content.Cut answers of a text that can be cut. -/
namespace Go.Proofs.YtfllomfjhkgaoaaGreatDoor
open Go Go.RowKit Go.Lib
set_option linter.unusedVariables false
end Go.Proofs.YtfllomfjhkgaoaaGreatDoor

/- What content.Join answers. -/
namespace Go.Proofs.YtfllomfjhkgaoaaGreatDoor
open Go Go.RowKit Go.Lib
set_option linter.unusedVariables false

/-- What a join of two is refused with. -/
def joinE (o o' : Op5) : Nat := if insE o = 0 then insE o' else insE o
/-- Whether two inserts are joined. -/
def joinB (o o' : Op5) : Bool := decide (o.k = 1) && (decide (o'.k = 1) && decide (o.A = o'.A))
def joinO (o o' : Op5) : Op5 := ⟨1, o.t ++ o'.t, z0, 0, o.A⟩
abbrev bxJ (w : World) (o : Op5) (s : Value) (o' : Op5) (s' : Value) : World := ((w.alloc (.cells (opC o s) 48)).alloc (.cells (opC o' s') 48)).alloc (.cells (opC opZ nilS) 48)
theorem bxJ_below (w : World) (o : Op5) (s : Value) (o' : Op5) (s' : Value) : Below w.heap.size w (bxJ w o s o' s') := (((Below.refl w.heap.size w).alloc (Nat.le_refl _) _).alloc (by simp) _).alloc (by simp; omega) _
theorem bxJ_1 (w : World) (o : Op5) (s : Value) (o' : Op5) (s' : Value) : BoxO (bxJ w o s o' s') (w.heap.size + 1) o' s' := by
  have h1 := BoxO.new (w.alloc (.cells (opC o s) 48)) o' s'
  rw [World.size_alloc] at h1
  exact h1.below ((Below.refl _ _).alloc (Nat.le_refl _) _)
theorem bxJ_2 (w : World) (o : Op5) (s : Value) (o' : Op5) (s' : Value) : BoxO (bxJ w o s o' s') (w.heap.size + 1 + 1) opZ nilS ∧ FrO (bxJ w o s o' s') (w.heap.size + 1 + 1) := by
  have h1 := BoxO.new ((w.alloc (.cells (opC o s) 48)).alloc (.cells (opC o' s') 48)) opZ nilS
  have h2 := FrO.new ((w.alloc (.cells (opC o s) 48)).alloc (.cells (opC o' s') 48)) opZ nilS
  rw [World.size_alloc, World.size_alloc] at h1 h2
  exact ⟨h1, h2⟩

end Go.Proofs.YtfllomfjhkgaoaaGreatDoor

/- content.textCells: the cells of a text. -/
namespace Go.Proofs.YtfllomfjhkgaoaaGreatDoor
open Go Go.RowKit Go.Lib
set_option linter.unusedVariables false

/-- Cells of scalars with one list. -/
def mkC (A : List A2) (rs : List Nat) : List C5 := rs.map fun (r : Nat) => (((r : Nat) : Int), ⟨#[]⟩, z0, A)
theorem mkC_len (A : List A2) (rs : List Nat) : (mkC A rs).length = rs.length := by simp [mkC]
theorem one_rowC (w : World) (d : CV) : RowC (w.alloc (.cells (ceC d) 59)) (.slice (some ⟨w.heap.size, 0, none⟩) 1 1) [d] :=
  ⟨_, 1, rfl, Nat.le_refl _, fun h => (by cases h), fun _ => ⟨w.heap.size, 0, rfl, fun j u hu => by
    match j, hu with
    | 0, hu => simp [cellsC] at hu; subst hu; simp [ceC]
    | 1, hu => simp [cellsC] at hu; subst hu; simp [ceC]
    | 2, hu => simp [cellsC] at hu; subst hu; simp [ceC]
    | 3, hu => simp [cellsC] at hu; subst hu; simp [ceC]
    | 4, hu => simp [cellsC] at hu; subst hu; simp [ceC]
    | 5, hu => simp [cellsC] at hu; subst hu; simp [ceC]
    | j + 6, hu => simp [cellsC] at hu⟩⟩
theorem keepA_iterAt {w : World} {K : Nat} {s : ByteArray} {p0 : Nat} (hk : w.heap[K]? = some (.stringIter s p0)) (p : Nat) : KeepA w (w.iterAt K s p) := fun k cur hc => by
  have hne : k ≠ K := fun e => by subst e; rw [hk] at hc; cases hc
  simp [World.iterAt, Ne.symm hne]
theorem ownsC_iterAt {w : World} {B : Nat} {v : Value} {D : List CV} (h : OwnC w B v D) {K : Nat} {s : ByteArray} {p0 : Nat} (hk : w.heap[K]? = some (.stringIter s p0)) (p : Nat) : OwnC (w.iterAt K s p) B v D :=
  owns_same h fun k hb => by
    obtain ⟨_, cur, hc⟩ := owns_block h k hb
    have hne : k ≠ K := fun e => by subst e; rw [hk] at hc; cases hc
    simp [World.iterAt, Ne.symm hne]

end Go.Proofs.YtfllomfjhkgaoaaGreatDoor

/- What the values' methods answer: Kind, Plain; how values of the interface compare. -/
namespace Go.Proofs.YtfllomfjhkgaoaaGreatDoor
open Go Go.RowKit Go.Lib
set_option linter.unusedVariables false
theorem plain_n (w : World) : Calls Tryz.prog 155 #[.agg #[]] w fun e w' => e = .returned (pl 0 0 ⟨#[]⟩) ∧ Below w.heap.size w w' := by
  go_enter Tryz.func155, Tryz.ntmps155
  go_wp2
  exact bodyPost_ret (v := pl 0 0 ⟨#[]⟩) (by simp [results, Tryz.results155, go_sem]) rfl ⟨rfl, by go_grown⟩
theorem plain_f (b : Bool) (w : World) : Calls Tryz.prog 149 #[.bool b] w fun e w' => e = .returned (pl 1 (if b then 1 else 0) ⟨#[]⟩) ∧ Below w.heap.size w w' := by
  cases b
  · go_enter Tryz.func149, Tryz.ntmps149
    go_wp2
    exact bodyPost_ret (v := pl 1 0 ⟨#[]⟩) (by simp [results, Tryz.results149, go_sem]) rfl ⟨rfl, by go_grown⟩
  · go_enter Tryz.func149, Tryz.ntmps149
    go_wp2
    exact bodyPost_ret (v := pl 1 1 ⟨#[]⟩) (by simp [results, Tryz.results149, go_sem]) rfl ⟨rfl, by go_grown⟩
theorem plain_d (n : Int) (w : World) : Calls Tryz.prog 151 #[.int .i64 n] w fun e w' => e = .returned (pl 2 n ⟨#[]⟩) ∧ Below w.heap.size w w' := by
  go_enter Tryz.func151, Tryz.ntmps151
  go_wp2
  exact bodyPost_ret (v := pl 2 n ⟨#[]⟩) (by simp [results, Tryz.results151, go_sem]) rfl ⟨rfl, by go_grown⟩
theorem plain_t (t : ByteArray) (w : World) : Calls Tryz.prog 153 #[.string t] w fun e w' => e = .returned (pl 3 0 t) ∧ Below w.heap.size w w' := by
  go_enter Tryz.func153, Tryz.ntmps153
  go_wp2
  exact bodyPost_ret (v := pl 3 0 t) (by simp [results, Tryz.results153, go_sem]) rfl ⟨rfl, by go_grown⟩

/-! '==' at api.Value. -/
theorem compNull : (Tryz.prog.info? 169).map (·.comparable) = some true := by kernel_rfl
theorem compFlag : (Tryz.prog.info? 165).map (·.comparable) = some true := by kernel_rfl
theorem compNum : (Tryz.prog.info? 166).map (·.comparable) = some true := by kernel_rfl
theorem compText : (Tryz.prog.info? 167).map (·.comparable) = some true := by kernel_rfl

theorem eql_same_type {tx : TypeId} {vx vy : Value} {b : Bool} (w : World) (hc : (Tryz.prog.info? tx).map (·.comparable) = some true)
    (h : ∀ d : Nat, (Op.equalIn (d + 1) tx vx vy).run Tryz.prog w = .ok b w) : (binOp .eql 150 (.iface tx vx) (.iface tx vy)).run Tryz.prog w = .ok (.bool b) w := by
  cases hi : Tryz.prog.info? tx with
  | none => simp [hi] at hc
  | some i =>
    have hcc : i.comparable = true := by simpa [hi] using hc
    have h2 : ∀ d : Nat, (Op.equalIn (d + 2) 150 (.iface tx vx) (.iface tx vy)).run Tryz.prog w = .ok b w := fun d => by
      rw [Op.equalIn]
      simp [run_underlying Tryz.underlying150, typeInfo, hi, hcc, h d]
    simp only [binOp]
    simp [Op.equal, Op.maxDepth, h2 9998]

theorem eql_null (w : World) : (binOp .eql 150 (.iface 169 (.agg #[])) (.iface 169 (.agg #[]))).run Tryz.prog w = .ok (.bool true) w :=
  eql_same_type w compNull fun d => by
    rw [run_equalIn_agg w d 169 _ _ (by kernel_rfl) (by kernel_rfl)]
    simp [Program.fieldsOf, Tryz.underlying169, Op.eqFields]
theorem eql_flag (a b : Bool) (w : World) : (binOp .eql 150 (.iface 165 (.bool a)) (.iface 165 (.bool b))).run Tryz.prog w = .ok (.bool (a == b)) w :=
  eql_same_type w compFlag fun d => run_equalIn_bool' w d _ a b Tryz.underlying165
theorem eql_num (a b : Int) (w : World) : (binOp .eql 150 (.iface 166 (.int .i64 a)) (.iface 166 (.int .i64 b))).run Tryz.prog w = .ok (.bool (a == b)) w :=
  eql_same_type w compNum fun d => run_equalIn_int w d _ .i64 .i64 a b Tryz.underlying166
theorem eql_text (a b : ByteArray) (w : World) : (binOp .eql 150 (.iface 167 (.string a)) (.iface 167 (.string b))).run Tryz.prog w = .ok (.bool (a.toList == b.toList)) w :=
  eql_same_type w compText fun d => run_equalIn_string w d _ a b Tryz.underlying167
theorem eql_types {tx ty : TypeId} (vx vy : Value) (h : tx ≠ ty) (w : World) : (binOp .eql 150 (.iface tx vx) (.iface ty vy)).run Tryz.prog w = .ok (.bool false) w :=
  run_eql_iface_types tx ty vx vy Tryz.underlying150 h w
end Go.Proofs.YtfllomfjhkgaoaaGreatDoor

/- What content.Cells and content.Newlines answer. -/
namespace Go.Proofs.YtfllomfjhkgaoaaGreatDoor
open Go Go.RowKit Go.Lib
set_option linter.unusedVariables false

/-- An insert's cells. -/
def cellsOf (o : Op5) : List C5 := if o.k = 1 then mkC o.A (scs o.t.data.toList) else [(-1, o.t, o.v, o.A)]
theorem cellsOf_len (o : Op5) : (cellsOf o).length = lenO o := by
  unfold cellsOf lenO
  split
  · exact mkC_len _ _
  · rfl
theorem cellsOf_A (o : Op5) : ∀ e ∈ cellsOf o, e.2.2.2 = o.A := fun e he => by
  unfold cellsOf at he
  split at he
  · unfold mkC at he
    obtain ⟨r, _, rfl⟩ := List.mem_map.1 he
    rfl
  · obtain rfl := List.mem_singleton.1 he
    rfl
theorem own_oneC (w : World) (B : Nat) (hB : B ≤ w.heap.size) (d : CV) : OwnC (w.alloc (.cells (ceC d) 59)) B (.slice (some ⟨w.heap.size, 0, none⟩) 1 1) [d] :=
  ⟨rfl, Or.inr ⟨w.heap.size, 1, ceC d, rfl, hB, by show (w.heap.push _)[w.heap.size]? = _; simp, Nat.le_refl _, by decide, rfl, rfl⟩⟩

/-- How many newlines an insert has. -/
def newlO (o : Op5) : Nat := if o.k = 1 then countByte o.t.data.toList 10 else 0

theorem plain_f0 (w : World) : Calls Tryz.prog 149 #[.bool false] w fun e w' => e = .returned (pl 1 0 ⟨#[]⟩) ∧ Below w.heap.size w w' := plain_f false w
theorem plain_f1 (w : World) : Calls Tryz.prog 149 #[.bool true] w fun e w' => e = .returned (pl 1 1 ⟨#[]⟩) ∧ Below w.heap.size w w' := plain_f true w

end Go.Proofs.YtfllomfjhkgaoaaGreatDoor

/- vellumlaw04.lives. -/
namespace Go.Proofs.YtfllomfjhkgaoaaGreatDoor
open Go Go.RowKit Go.Lib
set_option linter.unusedVariables false

abbrev tA : ByteArray := ⟨#[97, 195, 169, 226, 130, 172]⟩
abbrev tH : ByteArray := ⟨#[97, 195, 169]⟩
abbrev tR : ByteArray := ⟨#[226, 130, 172]⟩
abbrev tX : ByteArray := ⟨#[120]⟩
abbrev tB : ByteArray := ⟨#[98, 10]⟩
abbrev txO (t : ByteArray) : Op5 := ⟨1, t, z0, 0, []⟩
abbrev exO (t : ByteArray) : Op5 := ⟨2, t, z0, 0, []⟩
theorem ins_tx (t : ByteArray) (h1 : t.toList.isEmpty = false) (h2 : brk t.data.toList = t.size) : Ins (txO t) := ⟨Or.inl ⟨rfl, rfl⟩, h1, rfl, h2, chk_z0, rfl⟩
theorem ins_ex (t : ByteArray) (h1 : t.toList.isEmpty = false) (h2 : brk t.data.toList = t.size) (h3 : t.size ≤ 64) : Ins (exO t) := ⟨Or.inr ⟨rfl, h3⟩, h1, rfl, h2, chk_z0, rfl⟩
theorem fit_tx (k : Int) (t : ByteArray) (h : t.size ≤ 8388608) : Fit ⟨k, t, z0, 0, []⟩ := ⟨h, by show (0 : Nat) ≤ 1048576; decide, fun q hq => (by cases hq), by show (0 : Nat) ≤ 1048576; decide⟩
theorem iA : Ins (txO tA) := ins_tx _ (by rw [toList_data]; rfl) (by kernel_rfl)
theorem iH : Ins (txO tH) := ins_tx _ (by rw [toList_data]; rfl) (by kernel_rfl)
theorem iR : Ins (txO tR) := ins_tx _ (by rw [toList_data]; rfl) (by kernel_rfl)
theorem iB : Ins (txO tB) := ins_tx _ (by rw [toList_data]; rfl) (by kernel_rfl)
theorem iX : Ins (exO tX) := ins_ex _ (by rw [toList_data]; rfl) (by kernel_rfl) (by decide)
theorem scsA : scs tA.data.toList = [97, 233, 8364] := by kernel_rfl
theorem scsB : scs tB.data.toList = [98, 10] := by kernel_rfl
theorem posA : pos (scs tA.data.toList) 2 = 3 := by rw [scsA]; kernel_rfl
theorem extH : tA.extract 0 3 = tH := by kernel_rfl
theorem extR : tA.extract 3 tA.size = tR := by kernel_rfl
theorem catA : tH ++ tR = tA := by kernel_rfl
theorem newlB : newlO (txO tB) = 1 := by kernel_rfl
theorem lenX : lenO (exO tX) = 1 := rfl
theorem RN.val0 {w : World} {v : Value} (h : RN w v []) : ∃ p c, v = .slice p 0 c := by
  obtain ⟨p, c, h, _⟩ := h.row.val
  exact ⟨p, c, h⟩

end Go.Proofs.YtfllomfjhkgaoaaGreatDoor

/- Joins of inserts, purely; Join at all operations. -/
namespace Go.Proofs.YtfllomfjhkgaoaaGreatDoor
open Go Go.RowKit Go.Lib
set_option linter.unusedVariables false

theorem chkP_le (p : P3) : chkP p ≤ 10 := chk_le _ _ _
theorem listE_le' (nulls : Bool) : ∀ (L : List A2) (pv : Option ByteArray), listE nulls pv L ≤ 10
  | [], _ => Nat.zero_le _
  | q :: r, pv => by
    have hp : pairE q ≤ 10 := by
      unfold pairE
      split
      · omega
      · split
        · omega
        · exact chk_le _ _ _
    rw [listE]
    split
    · split
      · omega
      · split
        · exact listE_le' nulls r _
        · omega
    · exact hp
theorem insE_le19 (o : Op5) : insE o ≤ 19 := by
  have := insE_le o (fun L => listE_le' false L none)
  omega
theorem joinE_le (o o' : Op5) : joinE o o' ≤ 19 := by
  unfold joinE
  have := insE_le19 o
  have := insE_le19 o'
  split <;> omega
def jB (o o' : Op5) : Bool := decide (joinE o o' = 0) && joinB o o'
def jR (o o' : Op5) : Op5 := if jB o o' = true then joinO o o' else opZ
theorem jB_yes {o o' : Op5} (h : jB o o' = true) : Ins o ∧ Ins o' ∧ o.k = 1 ∧ o'.k = 1 ∧ o.A = o'.A := by
  unfold jB joinB joinE at h
  simp only [Bool.and_eq_true, decide_eq_true_eq] at h
  obtain ⟨h1, h2, h3, h4⟩ := h
  by_cases hi : insE o = 0
  · rw [if_pos hi] at h1
    exact ⟨ins_of hi, ins_of h1, h2, h3, h4⟩
  · rw [if_neg hi] at h1
    exact absurd h1 hi
theorem jB_of {o o' : Op5} (h : Ins o) (h' : Ins o') (hk : o.k = 1) (hk' : o'.k = 1) (hA : o.A = o'.A) : jB o o' = true := by
  unfold jB joinB joinE
  simp [h.zero, h'.zero, hk, hk', hA]
theorem jB_no {o o' : Op5} (h : ¬ (o.k = 1 ∧ o'.k = 1 ∧ o.A = o'.A)) : jB o o' = false := by
  cases hj : jB o o'
  · rfl
  · obtain ⟨_, _, h1, h2, h3⟩ := jB_yes hj
    exact absurd ⟨h1, h2, h3⟩ h
theorem jB_err {o o' : Op5} {e : Nat} (h : joinE o o' = e + 1) : jB o o' = false := by
  unfold jB
  simp [h]
theorem isEmp_size {t : ByteArray} (h : t.toList.isEmpty = false) : 0 < t.size := by
  rcases Nat.eq_zero_or_pos t.size with h0 | h0
  · exfalso
    have : t.toList = [] := by rw [toList_data]; exact List.eq_nil_of_length_eq_zero (by rw [size_toList]; exact h0)
    rw [this] at h; cases h
  · exact h0
theorem size_isEmp {t : ByteArray} (h : 0 < t.size) : t.toList.isEmpty = false := by
  cases he : t.toList.isEmpty
  · rfl
  · rw [emp_iff] at he
    subst he
    exact absurd h (by decide)
theorem cat_list (a b : ByteArray) : (a ++ b).data.toList = a.data.toList ++ b.data.toList := by rw [ByteArray.data_append, Array.toList_append]
theorem scs_cat {a b : List UInt8} (ha : brk a = a.length) (hb : brk b = b.length) : scs (a ++ b) = scs a ++ scs b ∧ brk (a ++ b) = (a ++ b).length := by
  have ea := valid_of_brk ha
  have eb := valid_of_brk hb
  obtain ⟨_, h1, _, _⟩ := text_cases a
  obtain ⟨_, h2, _, _⟩ := text_cases b
  have h12 : ∀ r ∈ scs a ++ scs b, scal r := fun r hr => by
    rcases List.mem_append.1 hr with h | h
    · exact h1 r h
    · exact h2 r h
  have e : a ++ b = encs (scs a ++ scs b) ++ [] := by
    rw [List.append_nil, encs_append, ← ea, ← eb]
  refine ⟨?_, ?_⟩
  · conv => lhs; rw [e]
    exact scs_eq h12 (Or.inl rfl)
  · conv => lhs; rw [e]
    rw [brk_eq h12 (Or.inl rfl), encs_append, ← ea, ← eb]
theorem ins_join {o o' : Op5} (h : Ins o) (h' : Ins o') : Ins (joinO o o') := by
  have hs : (o.t ++ o'.t).size = o.t.size + o'.t.size := ByteArray.size_append
  refine ⟨Or.inl ⟨rfl, rfl⟩, size_isEmp ?_, rfl, ?_, chk_z0, h.set⟩
  · have := isEmp_size h.full
    show 0 < (o.t ++ o'.t).size
    omega
  · show brk (o.t ++ o'.t).data.toList = (o.t ++ o'.t).size
    rw [cat_list, (scs_cat (by rw [h.utf, size_toList]) (by rw [h'.utf, size_toList])).2, List.length_append, size_toList, size_toList, hs]
theorem cells_join {o o' : Op5} (h : Ins o) (h' : Ins o') (hk : o.k = 1) (hk' : o'.k = 1) (hA : o.A = o'.A) : cellsOf (joinO o o') = cellsOf o ++ cellsOf o' := by
  unfold cellsOf
  rw [if_pos (show (joinO o o').k = 1 from rfl), if_pos hk, if_pos hk', ← hA]
  show mkC o.A (scs (o.t ++ o'.t).data.toList) = _
  rw [cat_list, (scs_cat (by rw [h.utf, size_toList]) (by rw [h'.utf, size_toList])).1]
  simp [mkC]
theorem join_assoc (x y z : Op5) : joinO (joinO x y) z = joinO x (joinO y z) := by
  unfold joinO
  simp only [ByteArray.append_assoc]
theorem fit_join {o o' : Op5} (h : Fit o) (hs : o.t.size + o'.t.size ≤ 8388608) : Fit (joinO o o') := ⟨by show (o.t ++ o'.t).size ≤ _; rw [ByteArray.size_append]; exact hs, by show (0 : Nat) ≤ 1048576; decide, h.A, h.n⟩
theorem fit_Z : Fit opZ := ⟨by show (0 : Nat) ≤ 8388608; decide, by show (0 : Nat) ≤ 1048576; decide, fun q hq => (by cases hq), by show (0 : Nat) ≤ 1048576; decide⟩

end Go.Proofs.YtfllomfjhkgaoaaGreatDoor

/- What vellumref04.copied and vellumref04.Join answer. -/
namespace Go.Proofs.YtfllomfjhkgaoaaGreatDoor
open Go Go.RowKit Go.Lib
set_option linter.unusedVariables false
end Go.Proofs.YtfllomfjhkgaoaaGreatDoor

/- What vellumref04.Length answers of inserts. -/
namespace Go.Proofs.YtfllomfjhkgaoaaGreatDoor
open Go Go.RowKit Go.Lib
set_option linter.unusedVariables false
end Go.Proofs.YtfllomfjhkgaoaaGreatDoor

/- What vellumref04.Length, Cells and Newlines answer of inserts. -/
namespace Go.Proofs.YtfllomfjhkgaoaaGreatDoor
open Go Go.RowKit Go.Lib
set_option linter.unusedVariables false

theorem ub10 (z : Int) (h : 128 ≤ z) (h1 : z < 256) : ¬ z.toNat.toUInt8 = 10 := fun e => by
  have := congrArg UInt8.toNat e
  rw [u8_nat z (by omega) h1] at this
  simp at this
  omega
theorem count_enc {r : Nat} (h : scal r) : (enc r).count 10 = if r = 10 then 1 else 0 := by
  have h' := h
  unfold scal at h'
  by_cases h1 : r < 128
  · rw [enc_one h1]
    by_cases h0 : r = 10
    · subst h0; rfl
    · rw [if_neg h0, List.count_eq_zero]
      intro hm
      have e := congrArg UInt8.toNat (List.mem_singleton.1 hm)
      rw [u8_nat _ (by omega) (by omega)] at e
      simp at e
      omega
  · rw [if_neg (by omega), List.count_eq_zero]
    intro hm
    by_cases h2 : r < 2048
    · rw [enc_two (by omega) h2] at hm
      simp only [List.mem_cons, List.not_mem_nil, or_false] at hm
      rcases hm with e | e <;> exact ub10 _ (by omega) (by omega) e.symm
    by_cases h3 : r < 65536
    · rw [enc_three (by omega) h3 h] at hm
      simp only [List.mem_cons, List.not_mem_nil, or_false] at hm
      rcases hm with e | e | e <;> exact ub10 _ (by omega) (by omega) e.symm
    · rw [enc_four (by omega) (by omega)] at hm
      simp only [List.mem_cons, List.not_mem_nil, or_false] at hm
      rcases hm with e | e | e | e <;> exact ub10 _ (by omega) (by omega) e.symm
theorem count_encs : ∀ (rs : List Nat), (∀ r ∈ rs, scal r) → (encs rs).count 10 = rs.countP (fun r => ((r : Nat) : Int) == 10)
  | [], _ => rfl
  | r :: rs, h => by
    rw [encs, List.count_append, count_enc (h r (by simp)), count_encs rs (fun x hx => h x (by simp [hx])), List.countP_cons]
    by_cases h0 : r = 10
    · subst h0; simp; omega
    · have : (((r : Nat) : Int) == 10) = false := by simp; omega
      rw [if_neg h0, this]
      simp
/-- How many cells of a list are newlines. -/
def newlC (L : List C5) : Nat := L.countP fun e => e.1 == 10
theorem newlC_of {o : Op5} (h : Ins o) : newlC (cellsOf o) = newlO o := by
  unfold newlC cellsOf newlO
  split
  · obtain ⟨h1, h2, _⟩ := valid_text o.t h.utf
    unfold mkC countByte
    rw [List.countP_map]
    conv => rhs; rw [h2]
    rw [count_encs _ h1]
    rfl
  · rfl
theorem newlC_le (L : List C5) : newlC L ≤ L.length := List.countP_le_length

/-- All blocks of numbers are as they were. -/
def Keep32 (w w' : World) : Prop := ∀ (k : Nat) (cur : Array Value), w.heap[k]? = some (.cells cur 21 (0, 0)) → w'.heap[k]? = w.heap[k]?
theorem keep32_below {w w' : World} (hb : Below w.heap.size w w') : Keep32 w w' := fun k cur hk => hb.block k (Array.getElem?_eq_some_iff.1 hk).1
theorem keep32_own {w w' : World} {B : Nat} {v : Value} {zs : List Int} (h : Own32 B w v zs) (hk : Keep32 w w') : Own32 B w' v zs := by
  obtain ⟨hl, h⟩ := h
  refine ⟨hl, ?_⟩
  rcases h with h | ⟨g, cap, cur, h1, h2, h3, h4⟩
  · exact Or.inl h
  · exact Or.inr ⟨g, cap, cur, h1, h2, (hk g cur h3).trans h3, h4⟩
theorem keep32_grown {w w' : World} {B : Nat} {v : Value} {D : List CV} (h : OwnC w B v D) (g : w.grownBy w' v.ownBlock) : Keep32 w w' := fun k cur hk => by
  refine g.block k (Array.getElem?_eq_some_iff.1 hk).1 fun e => ?_
  rcases h.2 with ⟨rfl, _⟩ | ⟨b, cap, cur', rfl, _, h3, _⟩
  · cases e
  · simp only [Value.ownBlock, Option.some.injEq] at e
    subst e
    rw [h3] at hk
    simp only [Option.some.injEq, Obj.cells.injEq] at hk
    exact absurd hk.2.1 (by decide)

end Go.Proofs.YtfllomfjhkgaoaaGreatDoor

/- The document's deltas: Same, SameOp, Insert, Len. -/
namespace Go.Proofs.YtfllomfjhkgaoaaGreatDoor
open Go Go.RowKit Go.Lib
set_option linter.unusedVariables false

set_option maxHeartbeats 1000000 in
theorem same6o_any (o o' : Op5) (s s' : Value) (w : World) (hA : RowA w s o.A) (hB : RowA w s' o'.A) (hl : o.A.length ≤ 4194304) (hl2 : o'.A.length ≤ 4194304) :
    Calls Tryz.prog 64 #[opV o s, opV o' s'] w fun r w' => r = .returned (.bool (decide (o = o'))) ∧ Below w.heap.size w w' := by
  have b0 := ((Below.refl w.heap.size w).alloc (Nat.le_refl _) (.cells (opC o s) 48)).alloc (by simp) (.cells (opC o' s') 48)
  have cS := from_below b0 (refSame_any s s' o.A o'.A _ (hA.below b0) (hB.below b0) (by omega) (by omega))
  obtain ⟨pa, ca, rfl, _⟩ := hA.val
  obtain ⟨pb, cb, rfl, _⟩ := hB.val
  obtain ⟨k, t, ⟨x, n, u⟩, c, A⟩ := o
  obtain ⟨k', t', ⟨x', n', u'⟩, c', A'⟩ := o'
  simp only at cS
  simp only [opC] at b0 cS
  clear hA hB hl hl2
  have gd := fun op e e' w => guard_pl op e e' (x, n, u) (x', n', u') w
  by_cases hk : k = k'
  · subst hk
    by_cases ht : t = t'
    · subst ht
      have q1 := beq_key (x := t) (y := t) true (decide_eq_true rfl)
      by_cases hv : ((x, n, u) : P3) = (x', n', u')
      · have hne := eql_pl (x, n, u) (x', n', u') true (by rw [hv, samP_self])
        by_cases hc : c = c'
        · subst hc
          have hd : decide (({ k := k, t := t, v := (x, n, u), c := c, A := A } : Op5) = { k := k, t := t, v := (x', n', u'), c := c, A := A' }) = decide (A = A') := by
            simp only [Op5.mk.injEq, true_and, hv]
          rw [hd]
          generalize decide (A = A') = R at cS ⊢
          clear hd hv
          go_enter Tryz.func64, Tryz.ntmps64
          go_wp2_with fail
          refine cS.mono ?_; rintro r w2 ⟨rfl, hb2⟩
          go_wp2
          go_ret
          exact ⟨rfl, hb2⟩
        · rw [decide_eq_false (by intro e; exact hc (congrArg Op5.c e))]
          have hcc : (c == c') = false := by simpa using hc
          clear cS hv hc
          go_enter Tryz.func64, Tryz.ntmps64
          go_wp2
          go_ret
          exact ⟨rfl, b0⟩
      · rw [decide_eq_false (by intro e; exact hv (congrArg Op5.v e))]
        have hne := eql_pl (x, n, u) (x', n', u') false (samP_ne hv)
        clear cS hv
        go_enter Tryz.func64, Tryz.ntmps64
        go_wp2
        go_ret
        exact ⟨rfl, b0⟩
    · rw [decide_eq_false (by intro e; exact ht (congrArg Op5.t e))]
      have q1 := beq_key (x := t) (y := t') false (decide_eq_false ht)
      clear cS ht gd
      go_enter Tryz.func64, Tryz.ntmps64
      go_wp2
      go_ret
      exact ⟨rfl, b0⟩
  · rw [decide_eq_false (by intro e; exact hk (congrArg Op5.k e))]
    have hkk : (k == k') = false := by simpa using hk
    clear cS hk gd
    go_enter Tryz.func64, Tryz.ntmps64
    go_wp2
    go_ret
    exact ⟨rfl, b0⟩

set_option maxHeartbeats 2000000 in
set_option maxRecDepth 100000 in
theorem same6_any (v v' : Value) (E E' : List Op5) (w : World) (h : ReO w v E) (h' : ReO w v' E') (hl : E.length ≤ 2097152) (hl' : E'.length ≤ 2097152) (hA : ∀ e ∈ E, e.A.length ≤ 1048576) (hA' : ∀ e ∈ E', e.A.length ≤ 1048576) :
    Calls Tryz.prog 37 #[v, v'] w fun r w' => r = .returned (.bool (decide (E = E'))) ∧ Below w.heap.size w w' := by
  obtain ⟨D, hrow, hre⟩ := h
  obtain ⟨D', hrow', hre'⟩ := h'
  have hE := forall2_len hre
  have hE' := forall2_len hre'
  obtain ⟨n, hn⟩ : ∃ n, D.length = n := ⟨_, rfl⟩
  obtain ⟨m, hm⟩ : ∃ m, D'.length = m := ⟨_, rfl⟩
  obtain ⟨pa, ca, rfl, ha, _, hca⟩ := hrow
  obtain ⟨pb, cb, rfl, hb, _, hcb⟩ := hrow'
  rw [hn] at ha hE ⊢
  rw [hm] at hb hE' ⊢
  have HN : Hid (D.length = n ∧ D'.length = m ∧ E.length = n ∧ E'.length = m) := ⟨hn, hm, hE.symm, hE'.symm⟩
  by_cases hnm : n = m
  · subst hnm
    have HA : Hid (∀ (j : Nat) (d : OV), D[j]? = some d → ∃ b off, pa = some ⟨b, off, none⟩ ∧ OpAt w b (off + j * 7) d) := hca
    have HB : Hid (∀ (j : Nat) (d : OV), D'[j]? = some d → ∃ b off, pb = some ⟨b, off, none⟩ ∧ OpAt w b (off + j * 7) d) := hcb
    have hl : n ≤ 2097152 := by omega
    have CC : Hid (∀ (k : Nat) d d', D[k]? = some d → D'[k]? = some d' → ∃ e e', E[k]? = some e ∧ E'[k]? = some e' ∧ ∀ W, Below w.heap.size w W → Calls Tryz.prog 64 #[ovV d, ovV d'] W fun r w' => r = .returned (.bool (decide (e = e'))) ∧ Below W.heap.size W w') := fun k d d' h1 h2 => by
      obtain ⟨y, hy, r1⟩ := forall2_get hre k d h1
      obtain ⟨y', hy', r2⟩ := forall2_get hre' k d' h2
      refine ⟨y, y', hy, hy', fun W hW => ?_⟩
      rw [opV_of r1, opV_of r2]
      have h3 := hA y (List.mem_of_getElem? hy)
      have h4 := hA' y' (List.mem_of_getElem? hy')
      exact same6o_any y y' _ _ W (r1.2.2.2.2.below hW).row (r2.2.2.2.2.below hW).row (by omega) (by omega)
    clear hca hcb hn hm hre hre' hE hE' hA hA' hl'
    go_enter Tryz.func37, Tryz.ntmps37
    go_wp2
    go_loopw [13] (fun i wr => ∃ (k : Nat), k ≤ n ∧ i = .int .i64 k ∧ Hid (E.take k = E'.take k) ∧ Below w.heap.size w wr) (fun i _ => n - (RowKit.intOf i).toNat)
    case atStart => exact ⟨0, Nat.zero_le _, rfl, rfl, Below.refl _ _⟩
    case round =>
      obtain ⟨k, hk, rfl, HT, hbw⟩ := hrel
      by_cases hlt : k < n
      · have hltI : (k : Int) < n := by omega
        obtain ⟨d, hd⟩ : ∃ q, D[k]? = some q := ⟨_, List.getElem?_eq_getElem (by rw [HN.out.1]; exact hlt)⟩
        obtain ⟨d', hd'⟩ : ∃ q, D'[k]? = some q := ⟨_, List.getElem?_eq_getElem (by rw [HN.out.2.1]; exact hlt)⟩
        obtain ⟨e, e', he, he', cc⟩ := CC.out k d d' hd hd'
        obtain ⟨b, off, rfl, hin⟩ := HA.out k d hd
        obtain ⟨b', off', rfl, hin'⟩ := HB.out k d' hd'
        obtain ⟨c0, c1, c2, c3, c4, c5, c6⟩ := hin.below hbw
        obtain ⟨d0, d1, d2, d3, d4, d5, d6⟩ := hin'.below hbw
        have HEE : Hid (E[k]? = some e ∧ E'[k]? = some e') := ⟨he, he'⟩
        clear hin hin' hd hd' he he'
        obtain ⟨f, t, ⟨x, z, u⟩, cc1, p, j, c⟩ := d
        obtain ⟨f', t', ⟨x', z', u'⟩, cc1', p', j', c'⟩ := d'
        simp only [slV] at c0 c1 c2 c3 c4 c5 c6 d0 d1 d2 d3 d4 d5 d6
        simp only [ovV, ovC, slV] at cc
        have HU : Hid (∀ w', Below wr.drew.heap.size wr.drew w' → (w'.cell? ⟨b, off + k * 7, none⟩ = some (.int .i64 f) ∧ w'.cell? ⟨b, off + k * 7 + 1, none⟩ = some (.string t) ∧ w'.cell? ⟨b, off + k * 7 + 2, none⟩ = some (.int .i64 x) ∧ w'.cell? ⟨b, off + k * 7 + 3, none⟩ = some (.int .i64 z) ∧ w'.cell? ⟨b, off + k * 7 + 4, none⟩ = some (.string u) ∧ w'.cell? ⟨b, off + k * 7 + 5, none⟩ = some (.int .i64 cc1) ∧ w'.cell? ⟨b, off + k * 7 + 6, none⟩ = some (.slice p j c) ∧ w'.cell? ⟨b', off' + k * 7, none⟩ = some (.int .i64 f') ∧ w'.cell? ⟨b', off' + k * 7 + 1, none⟩ = some (.string t') ∧ w'.cell? ⟨b', off' + k * 7 + 2, none⟩ = some (.int .i64 x') ∧ w'.cell? ⟨b', off' + k * 7 + 3, none⟩ = some (.int .i64 z') ∧ w'.cell? ⟨b', off' + k * 7 + 4, none⟩ = some (.string u') ∧ w'.cell? ⟨b', off' + k * 7 + 5, none⟩ = some (.int .i64 cc1') ∧ w'.cell? ⟨b', off' + k * 7 + 6, none⟩ = some (.slice p' j' c'))) := fun w' hb => ⟨(hb.cell (lt_of_cell (w := wr.drew) c0)).trans c0, (hb.cell (lt_of_cell (w := wr.drew) c1)).trans c1, (hb.cell (lt_of_cell (w := wr.drew) c2)).trans c2, (hb.cell (lt_of_cell (w := wr.drew) c3)).trans c3, (hb.cell (lt_of_cell (w := wr.drew) c4)).trans c4, (hb.cell (lt_of_cell (w := wr.drew) c5)).trans c5, (hb.cell (lt_of_cell (w := wr.drew) c6)).trans c6, (hb.cell (lt_of_cell (w := wr.drew) d0)).trans d0, (hb.cell (lt_of_cell (w := wr.drew) d1)).trans d1, (hb.cell (lt_of_cell (w := wr.drew) d2)).trans d2, (hb.cell (lt_of_cell (w := wr.drew) d3)).trans d3, (hb.cell (lt_of_cell (w := wr.drew) d4)).trans d4, (hb.cell (lt_of_cell (w := wr.drew) d5)).trans d5, (hb.cell (lt_of_cell (w := wr.drew) d6)).trans d6⟩
        have hz0 : w.heap.size ≤ wr.drew.heap.size := hbw.size
        obtain ⟨q, hq⟩ : ∃ q, decide (e = e') = q := ⟨_, rfl⟩
        rw [hq] at cc
        have HQ : Hid (decide (e = e') = q) := hq
        clear hq
        cases q with
        | true =>
          have HT2 : Hid (E.take (k + 1) = E'.take (k + 1)) := take_eq_snoc HT.out HEE.out.1 HEE.out.2 (of_decide_eq_true HQ.out)
          go_wp2_with fail
          go_region_held3 (fun w' => (w'.cell? ⟨b, off + k * 7, none⟩ = some (.int .i64 f) ∧ w'.cell? ⟨b, off + k * 7 + 1, none⟩ = some (.string t) ∧ w'.cell? ⟨b, off + k * 7 + 2, none⟩ = some (.int .i64 x) ∧ w'.cell? ⟨b, off + k * 7 + 3, none⟩ = some (.int .i64 z) ∧ w'.cell? ⟨b, off + k * 7 + 4, none⟩ = some (.string u) ∧ w'.cell? ⟨b, off + k * 7 + 5, none⟩ = some (.int .i64 cc1) ∧ w'.cell? ⟨b, off + k * 7 + 6, none⟩ = some (.slice p j c) ∧ w'.cell? ⟨b', off' + k * 7, none⟩ = some (.int .i64 f') ∧ w'.cell? ⟨b', off' + k * 7 + 1, none⟩ = some (.string t') ∧ w'.cell? ⟨b', off' + k * 7 + 2, none⟩ = some (.int .i64 x') ∧ w'.cell? ⟨b', off' + k * 7 + 3, none⟩ = some (.int .i64 z') ∧ w'.cell? ⟨b', off' + k * 7 + 4, none⟩ = some (.string u') ∧ w'.cell? ⟨b', off' + k * 7 + 5, none⟩ = some (.int .i64 cc1') ∧ w'.cell? ⟨b', off' + k * 7 + 6, none⟩ = some (.slice p' j' c')) ∧ Below w.heap.size w w')
            (exact ⟨by first | (with_reducible assumption) | (simp [*]; done), by first | (with_reducible assumption) | exact hbw.drew⟩)
            (first | (go_at_call 64; refine (cc _ ?_).mono ?_; (· first | assumption | exact hbw.drew | (apply And.right; assumption)); rintro r w3 ⟨rfl, b3⟩; have b4 : Below w.heap.size w w3 := (hbw.drew).trans (b3.mono hz0); have mm := HU.out _ b3))
          clear cc mm b3
          go_wp2
          go_roundw
          case rel => exact ⟨k + 1, by omega, by go_num, HT2, b4⟩
          case measure => simp [RowKit.intOf]; omega
        | false =>
          have hfin : Hid (decide (E = E') = false) := decide_eq_false (ne_at HEE.out.1 HEE.out.2 (of_decide_eq_false HQ.out))
          go_wp2_with fail
          go_region_held3 (fun w' => (w'.cell? ⟨b, off + k * 7, none⟩ = some (.int .i64 f) ∧ w'.cell? ⟨b, off + k * 7 + 1, none⟩ = some (.string t) ∧ w'.cell? ⟨b, off + k * 7 + 2, none⟩ = some (.int .i64 x) ∧ w'.cell? ⟨b, off + k * 7 + 3, none⟩ = some (.int .i64 z) ∧ w'.cell? ⟨b, off + k * 7 + 4, none⟩ = some (.string u) ∧ w'.cell? ⟨b, off + k * 7 + 5, none⟩ = some (.int .i64 cc1) ∧ w'.cell? ⟨b, off + k * 7 + 6, none⟩ = some (.slice p j c) ∧ w'.cell? ⟨b', off' + k * 7, none⟩ = some (.int .i64 f') ∧ w'.cell? ⟨b', off' + k * 7 + 1, none⟩ = some (.string t') ∧ w'.cell? ⟨b', off' + k * 7 + 2, none⟩ = some (.int .i64 x') ∧ w'.cell? ⟨b', off' + k * 7 + 3, none⟩ = some (.int .i64 z') ∧ w'.cell? ⟨b', off' + k * 7 + 4, none⟩ = some (.string u') ∧ w'.cell? ⟨b', off' + k * 7 + 5, none⟩ = some (.int .i64 cc1') ∧ w'.cell? ⟨b', off' + k * 7 + 6, none⟩ = some (.slice p' j' c')) ∧ Below w.heap.size w w')
            (exact ⟨by first | (with_reducible assumption) | (simp [*]; done), by first | (with_reducible assumption) | exact hbw.drew⟩)
            (first | (go_at_call 64; refine (cc _ ?_).mono ?_; (· first | assumption | exact hbw.drew | (apply And.right; assumption)); rintro r w3 ⟨rfl, b3⟩; have b4 : Below w.heap.size w w3 := (hbw.drew).trans (b3.mono hz0); have mm := HU.out _ b3))
          clear cc mm b3
          go_wp2
          go_ret
          exact ⟨by rw [hfin.out]; rfl, b4⟩
      · have hltI : ¬ (k : Int) < n := by omega
        have hfin : Hid (decide (E = E') = true) := decide_eq_true (by
          have := HT.out
          rwa [List.take_of_length_le (by rw [HN.out.2.2.1]; omega), List.take_of_length_le (by rw [HN.out.2.2.2]; omega)] at this)
        go_wp2
        go_ret
        exact ⟨by rw [hfin.out]; rfl, hbw⟩
  · have hne : ((n : Int) != m) = true := by simp; omega
    have hfin : Hid (decide (E = E') = false) := decide_eq_false (fun h => hnm (by rw [← HN.out.2.2.1, ← HN.out.2.2.2, h]))
    clear hca hcb hn hm hre hre' hE hE' hA hA' hnm HN hl hl'
    go_enter Tryz.func37, Tryz.ntmps37
    go_wp2
    go_ret
    exact ⟨by rw [hfin.out]; rfl, Below.refl _ _⟩

set_option maxHeartbeats 1000000 in
theorem ins6_any (o : Op5) (p : Option Addr) (l c : Nat) (w : World) : Calls Tryz.prog 35 #[opV o (.slice p l c)] w fun r w' => r = .returned (.bool (decide (o.k = 1 ∨ o.k = 2))) ∧ Below w.heap.size w w' := by
  obtain ⟨k, t, ⟨x, n, u⟩, cc, A⟩ := o
  simp only
  by_cases k1 : k = 1
  · subst k1
    rw [decide_eq_true (Or.inl rfl)]
    go_enter Tryz.func35, Tryz.ntmps35
    go_wp2
    go_ret
    exact ⟨rfl, by go_grown⟩
  · have e1 : (k == 1) = false := by simpa using k1
    by_cases k2 : k = 2
    · subst k2
      rw [decide_eq_true (Or.inr rfl)]
      go_enter Tryz.func35, Tryz.ntmps35
      go_wp2
      go_ret
      exact ⟨rfl, by go_grown⟩
    · have e2 : (k == 2) = false := by simpa using k2
      rw [decide_eq_false (by omega)]
      go_enter Tryz.func35, Tryz.ntmps35
      go_wp2
      go_ret
      exact ⟨rfl, by go_grown⟩
end Go.Proofs.YtfllomfjhkgaoaaGreatDoor

/- The errors' numbers: what vellumnum.list and vellumnum.Num answer where all nineteen sentinels lie as laid. -/
namespace Go.Proofs.YtfllomfjhkgaoaaGreatDoor
open Go Go.RowKit
set_option linter.unusedVariables false

/-- All nineteen. -/
def all19 : List Nat := List.range 19
abbrev Sent (a : Nat → Addr) (w : World) : Prop := Er all19 a w
theorem in19 {i : Nat} (h : i < 19) : i ∈ all19 := List.mem_range.2 h
def errA (a : Nat → Addr) : Array Value := #[errV a 0, errV a 1, errV a 2, errV a 3, errV a 4, errV a 5, errV a 6, errV a 7, errV a 8, errV a 9, errV a 10, errV a 11, errV a 12, errV a 13, errV a 14, errV a 15, errV a 16, errV a 17, errV a 18]

theorem wl_build (a : Nat → Addr) {ops : Array Oper} {rest : List Oper} {o : Oper} {A : Act} {w : World} {Q : Exit → Act → World → Prop} (hg : o.guard = none) (parts : Array (Nat × Operand)) (ho : o.op = .build 71 parts)
    (hp : (parts.map fun (i, x) => (i, A.eval x)) = #[(0, errV a 0), (1, errV a 1), (2, errV a 2), (3, errV a 3), (4, errV a 4), (5, errV a 5), (6, errV a 6), (7, errV a 7), (8, errV a 8), (9, errV a 9), (10, errV a 10), (11, errV a 11), (12, errV a 12), (13, errV a 13), (14, errV a 14), (15, errV a 15), (16, errV a 16), (17, errV a 17), (18, errV a 18)])
    (h : wpList Tryz.prog ops Q rest (A.put o.dst (.agg (errA a))) w) : wpList Tryz.prog ops Q (o :: rest) A w := by
  have hb : Tryz.prog.built 71 (parts.map fun (i, x) => (i, A.eval x)).toList = some (errA a) := by rw [hp]; kernel_rfl
  refine wpList_build hg 71 parts ho (by rw [hb]; rfl) ?_
  rw [hb]; exact h

theorem alloc_setRow (w : World) (old cs : Array Value) (t : TypeId) : (w.alloc (.cells old t)).setRow w.heap.size cs = w.alloc (.cells cs t) := by
  have : ((w.heap.push (.cells old t)).modify w.heap.size fun | .cells _ t f => .cells cs t f | o => o) = w.heap.push (.cells cs t) := by
    apply Array.ext
    · simp
    · intro i h1 h2
      rw [Array.getElem_modify]
      by_cases hi : w.heap.size = i
      · subst hi; simp
      · rw [if_neg hi]
        have : i < w.heap.size := by simp at h2; omega
        simp [Array.getElem_push, this]
  show { w with heap := (w.heap.push (.cells old t)).modify w.heap.size _ } = { w with heap := w.heap.push _ }
  rw [← this]; rfl

theorem wl_store (a : Nat → Addr) {ops : Array Oper} {rest : List Oper} {o : Oper} {A : Act} {w : World} {Q : Exit → Act → World → Prop} {old : Array Value} (hg : o.guard = none) (x y : Operand) (ho : o.op = .store 71 x y)
    (hx : A.eval x = .pointer (some ⟨w.heap.size, 0, none⟩)) (hy : A.eval y = .agg (errA a)) (hold : old.size = 19)
    (h : wpList Tryz.prog ops Q rest (A.put o.dst undef) (w.alloc (.cells (errA a) 71))) : wpList Tryz.prog ops Q (o :: rest) A (w.alloc (.cells old 71)) := by
  refine wpList_store_row hg 71 x y ho w.heap.size (errA a) hx hy 71 old (by show (w.heap.push _)[w.heap.size]? = _; simp) (by kernel_rfl) (by rw [hold]; rfl) (by kernel_rfl) ?_
  rw [alloc_setRow]; exact h

set_option maxHeartbeats 400000 in
set_option maxRecDepth 100000 in
theorem list_any (a : Nat → Addr) (w : World) (h : ∀ i, i < 19 → w.cell? ⟨[1, 2, 3, 4, 5, 6, 7, 8, 9, 10, 11, 12, 13, 14, 15, 16, 17, 0, 18].getD i 0, 0, none⟩ = some (errV a i)) :
    Calls Tryz.prog 36 #[] w fun e w' => e = .returned (.agg (errA a)) ∧ Below w.heap.size w w' := by
  have h0 : w.cell? ⟨1, 0, none⟩ = some (errV a 0) := h 0 (by omega)
  have h1 : w.cell? ⟨2, 0, none⟩ = some (errV a 1) := h 1 (by omega)
  have h2 : w.cell? ⟨3, 0, none⟩ = some (errV a 2) := h 2 (by omega)
  have h3 : w.cell? ⟨4, 0, none⟩ = some (errV a 3) := h 3 (by omega)
  have h4 : w.cell? ⟨5, 0, none⟩ = some (errV a 4) := h 4 (by omega)
  have h5 : w.cell? ⟨6, 0, none⟩ = some (errV a 5) := h 5 (by omega)
  have h6 : w.cell? ⟨7, 0, none⟩ = some (errV a 6) := h 6 (by omega)
  have h7 : w.cell? ⟨8, 0, none⟩ = some (errV a 7) := h 7 (by omega)
  have h8 : w.cell? ⟨9, 0, none⟩ = some (errV a 8) := h 8 (by omega)
  have h9 : w.cell? ⟨10, 0, none⟩ = some (errV a 9) := h 9 (by omega)
  have h10 : w.cell? ⟨11, 0, none⟩ = some (errV a 10) := h 10 (by omega)
  have h11 : w.cell? ⟨12, 0, none⟩ = some (errV a 11) := h 11 (by omega)
  have h12 : w.cell? ⟨13, 0, none⟩ = some (errV a 12) := h 12 (by omega)
  have h13 : w.cell? ⟨14, 0, none⟩ = some (errV a 13) := h 13 (by omega)
  have h14 : w.cell? ⟨15, 0, none⟩ = some (errV a 14) := h 14 (by omega)
  have h15 : w.cell? ⟨16, 0, none⟩ = some (errV a 15) := h 15 (by omega)
  have h16 : w.cell? ⟨17, 0, none⟩ = some (errV a 16) := h 16 (by omega)
  have h17 : w.cell? ⟨0, 0, none⟩ = some (errV a 17) := h 17 (by omega)
  have h18 : w.cell? ⟨18, 0, none⟩ = some (errV a 18) := h 18 (by omega)
  have z0 : 1 < w.heap.size := lt_of_cell h0
  have z1 : 2 < w.heap.size := lt_of_cell h1
  have z2 : 3 < w.heap.size := lt_of_cell h2
  have z3 : 4 < w.heap.size := lt_of_cell h3
  have z4 : 5 < w.heap.size := lt_of_cell h4
  have z5 : 6 < w.heap.size := lt_of_cell h5
  have z6 : 7 < w.heap.size := lt_of_cell h6
  have z7 : 8 < w.heap.size := lt_of_cell h7
  have z8 : 9 < w.heap.size := lt_of_cell h8
  have z9 : 10 < w.heap.size := lt_of_cell h9
  have z10 : 11 < w.heap.size := lt_of_cell h10
  have z11 : 12 < w.heap.size := lt_of_cell h11
  have z12 : 13 < w.heap.size := lt_of_cell h12
  have z13 : 14 < w.heap.size := lt_of_cell h13
  have z14 : 15 < w.heap.size := lt_of_cell h14
  have z15 : 16 < w.heap.size := lt_of_cell h15
  have z16 : 17 < w.heap.size := lt_of_cell h16
  have z17 : 0 < w.heap.size := lt_of_cell h17
  have z18 : 18 < w.heap.size := lt_of_cell h18
  clear h
  go_enter Tryz.func36, Tryz.ntmps36
  go_wp2_with (first | (refine wl_build a rfl _ rfl (by kernel_rfl) ?_) | (refine wl_store a rfl _ _ rfl (by kernel_rfl) (by kernel_rfl) (by kernel_rfl) ?_))
  have hl := run_loadVar_new (P := Tryz.prog) w 71 (errA a) 19 28 Tryz.underlying71 (by kernel_rfl)
  refine bodyPost_ret (v := .agg (errA a)) ?_ rfl ⟨rfl, (Below.refl _ _).alloc (Nat.le_refl _) _⟩
  simp only [results, Tryz.results36]
  simp [asAddr, Act.put, hl]

theorem errA_get (a : Nat → Addr) (k : Nat) (hk : k < 19) : (errA a)[k]? = some (errV a k) := by
  have e : errA a = ((List.range 19).map (errV a)).toArray := rfl
  rw [e]
  simp [hk]

theorem index_arr {A : Array Value} {k : Nat} {v : Value} (hk : k < 19) (hA : A[k]? = some v) (w : World) : (Instr.index 71 (.agg A) (.int .i64 k)).run Tryz.prog w = .ok v w := by
  obtain ⟨i, hi, hs⟩ := Option.map_eq_some_iff.1 (show (Tryz.prog.info? 28).map (·.size) = some 1 by kernel_rfl)
  have hk2 : (0 : Int) ≤ k ∧ (k : Int) < 19 := by omega
  simp [Instr.index, run_underlying Tryz.underlying71, asIntOf, hk2, sizeOf, typeInfo, hi, hs, part, hA]
  omega

theorem num_nil (w : World) : Calls Tryz.prog 11 #[.nilIface] w fun e w' => e = .returned (.int .i64 0) ∧ w' = w := by
  go_enter Tryz.func11, Tryz.ntmps11
  go_wp2
  go_ret
  exact ⟨rfl, rfl⟩

set_option maxHeartbeats 400000 in
theorem num_err {a : Nat → Addr} {w : World} (h : Sent a w) (n : Nat) (hn : n < 19) :
    Calls Tryz.prog 11 #[errV a n] w fun e w' => e = .returned (.int .i64 (n + 1)) ∧ Below w.heap.size w w' := by
  have hcell : ∀ i, i < 19 → w.cell? ⟨[1, 2, 3, 4, 5, 6, 7, 8, 9, 10, 11, 12, 13, 14, 15, 16, 17, 0, 18].getD i 0, 0, none⟩ = some (errV a i) := fun i hi => h.cell i (in19 hi)
  have hnil := eql_nil a n
  have hsame := eql_same a n
  obtain ⟨A, hA⟩ : ∃ A, A = errA a := ⟨_, rfl⟩
  have hAs : A.size = 19 := by rw [hA]; rfl
  have hAg : ∀ k, k < 19 → A[k]? = some (errV a k) := by rw [hA]; exact errA_get a
  go_enter Tryz.func11, Tryz.ntmps11
  go_wp2_with (go_at_call 36; refine (list_any a _ hcell).mono ?_; rintro e w1 ⟨rfl, hb⟩; have h1 := h.below hb; clear hcell h hnil; rw [← hA]; clear hA)
  go_loop [8] (fun i => ∃ k : Nat, k ≤ n ∧ i = .int .i64 k) (fun i => 19 - (intOf i).toNat)
  case atStart => exact ⟨0, Nat.zero_le _, rfl⟩
  case round =>
    obtain ⟨k, hk, rfl⟩ := hrel
    have hAk := hAg k (by omega)
    have hk9 : (k : Int) < 19 := by omega
    have hix := index_arr (A := A) (by omega : k < 19) hAk
    clear hAg hAk
    by_cases hlt : k < n
    · have he := eql_other h1 n k (in19 hn) (in19 (by omega)) (by omega)
      clear h1 hsame
      go_wp2
      go_round
      case rel => exact ⟨k + 1, by omega, by go_num⟩
      case measure => simp [intOf]; omega
    · obtain rfl : k = n := by omega
      clear h1
      go_wp2
      go_ret
      exact ⟨rfl, hb⟩

theorem num_of {a : Nat → Addr} {w : World} (h : Sent a w) (e : Nat) (he : e ≤ 19) :
    Calls Tryz.prog 11 #[errOf a e] w fun r w' => r = .returned (.int .i64 e) ∧ Below w.heap.size w w' := by
  cases e with
  | zero => exact (num_nil w).mono fun r w' ⟨h1, h2⟩ => ⟨h1, by rw [h2]; exact Below.refl _ _⟩
  | succ n => rw [errOf_succ]; exact num_err h n (by omega)
end Go.Proofs.YtfllomfjhkgaoaaGreatDoor

/- vellumhand.Kept and vellumlaw03.same. -/
namespace Go.Proofs.YtfllomfjhkgaoaaGreatDoor
open Go Go.RowKit Go.Lib
set_option linter.unusedVariables false

set_option maxHeartbeats 800000 in
set_option maxRecDepth 100000 in
theorem kept_any (va vb : Value) (A : List A2) (w : World) (hA : HandA w va A) (hB : RowA w vb A) (hl : A.length ≤ 1048576) :
    Calls Tryz.prog 38 #[va, vb] w fun r w' => r = .returned (.bool true) ∧ Below w.heap.size w w' := by
  have cS := refSame_any va vb A A w hA.2.1 hB (by omega) (by omega)
  simp only [decide_true] at cS
  obtain ⟨pb, cb, rfl, hcb⟩ := hB.val
  clear hB
  obtain ⟨n, hn⟩ : ∃ n, A.length = n := ⟨_, rfl⟩
  by_cases h0 : n = 0
  · subst h0
    obtain ⟨pa, ca, rfl, _⟩ := hA.2.1.val
    rw [hn] at cS ⊢
    clear hA hl hn hcb
    go_enter Tryz.func38, Tryz.ntmps38
    go_wp2_with fail
    refine cS.mono ?_; rintro r w2 ⟨rfl, hb2⟩
    go_wp2
    go_ret
    exact ⟨rfl, hb2⟩
  · have h0I : ((n : Int) == 0) = false := by simp; omega
    obtain ⟨p, c, rfl, hc, hr⟩ := hA.2.2 (fun e => h0 (by rw [← hn, e]; rfl))
    obtain ⟨p', c', e', hc', hr'⟩ := hr
    obtain ⟨b, off, hp1, h1⟩ := hr' n s1 (by rw [List.getElem?_append_right (by omega), hn]; simp)
    obtain ⟨b2, off2, hp2, h2⟩ := hr' (n + 1) s2 (by rw [List.getElem?_append_right (by omega), hn]; simp)
    simp only [Value.slice.injEq] at e'
    obtain ⟨rfl, -, rfl⟩ := e'
    subst hp1
    cases hp2
    rw [hn] at cS hl hc hcb ⊢
    have q1 := beq_key (x := ⟨#[115, 112, 97, 114, 101]⟩) (y := ⟨#[115, 112, 97, 114, 101]⟩) true (decide_eq_true rfl)
    have q2 := beq_key (x := ⟨#[114, 111, 111, 109]⟩) (y := ⟨#[114, 111, 111, 109]⟩) true (decide_eq_true rfl)
    have d1 := h1.c0
    have d2 := h2.c0
    simp only at d1 d2
    clear hA hc' hr' h0 h1 h2
    go_enter Tryz.func38, Tryz.ntmps38
    go_wp2_with fail
    refine cS.mono ?_; rintro r w2 ⟨rfl, hb2⟩
    have e1 := (hb2.cell (lt_of_cell d1)).trans d1
    have e2 := (hb2.cell (lt_of_cell d2)).trans d2
    clear d1 d2 cS hn
    go_wp2
    go_ret
    exact ⟨rfl, hb2⟩

end Go.Proofs.YtfllomfjhkgaoaaGreatDoor

/- Operations as new memory: appends of rows of operations; vellumlaw05.copied. -/
namespace Go.Proofs.YtfllomfjhkgaoaaGreatDoor
open Go Go.RowKit Go.Lib
set_option linter.unusedVariables false

theorem cellsO_inv : ∀ (L : List OV) (j : Nat) (u : Value), (cellsO L)[j]? = some u → ∃ i d, L[i]? = some d ∧ ((j = i * 7 ∧ u = .int .i64 d.1) ∨ (j = i * 7 + 1 ∧ u = .string d.2.1) ∨ (j = i * 7 + 2 ∧ u = .int .i64 d.2.2.1.1) ∨ (j = i * 7 + 3 ∧ u = .int .i64 d.2.2.1.2.1) ∨ (j = i * 7 + 4 ∧ u = .string d.2.2.1.2.2) ∨ (j = i * 7 + 5 ∧ u = .int .i64 d.2.2.2.1) ∨ (j = i * 7 + 6 ∧ u = slV d.2.2.2.2))
  | [], j, u, h => by simp [cellsO] at h
  | p :: r, 0, u, h => ⟨0, p, rfl, Or.inl ⟨rfl, by simpa [cellsO] using h.symm⟩⟩
  | p :: r, 1, u, h => ⟨0, p, rfl, Or.inr (Or.inl ⟨rfl, by simpa [cellsO] using h.symm⟩)⟩
  | p :: r, 2, u, h => ⟨0, p, rfl, Or.inr (Or.inr (Or.inl ⟨rfl, by simpa [cellsO] using h.symm⟩))⟩
  | p :: r, 3, u, h => ⟨0, p, rfl, Or.inr (Or.inr (Or.inr (Or.inl ⟨rfl, by simpa [cellsO] using h.symm⟩)))⟩
  | p :: r, 4, u, h => ⟨0, p, rfl, Or.inr (Or.inr (Or.inr (Or.inr (Or.inl ⟨rfl, by simpa [cellsO] using h.symm⟩))))⟩
  | p :: r, 5, u, h => ⟨0, p, rfl, Or.inr (Or.inr (Or.inr (Or.inr (Or.inr (Or.inl ⟨rfl, by simpa [cellsO] using h.symm⟩)))))⟩
  | p :: r, 6, u, h => ⟨0, p, rfl, Or.inr (Or.inr (Or.inr (Or.inr (Or.inr (Or.inr ⟨rfl, by simpa [cellsO] using h.symm⟩)))))⟩
  | p :: r, j + 7, u, h => by
    obtain ⟨i, q, hq, hh⟩ := cellsO_inv r j u (by simpa [cellsO] using h)
    refine ⟨i + 1, q, by simpa using hq, ?_⟩
    rcases hh with ⟨h1, h2⟩ | ⟨h1, h2⟩ | ⟨h1, h2⟩ | ⟨h1, h2⟩ | ⟨h1, h2⟩ | ⟨h1, h2⟩ | ⟨h1, h2⟩
    · exact Or.inl ⟨by omega, h2⟩
    · exact Or.inr (Or.inl ⟨by omega, h2⟩)
    · exact Or.inr (Or.inr (Or.inl ⟨by omega, h2⟩))
    · exact Or.inr (Or.inr (Or.inr (Or.inl ⟨by omega, h2⟩)))
    · exact Or.inr (Or.inr (Or.inr (Or.inr (Or.inl ⟨by omega, h2⟩))))
    · exact Or.inr (Or.inr (Or.inr (Or.inr (Or.inr (Or.inl ⟨by omega, h2⟩)))))
    · exact Or.inr (Or.inr (Or.inr (Or.inr (Or.inr (Or.inr ⟨by omega, h2⟩)))))
/-- append(own, a row of operations ...). -/
theorem wpList_append_rowO {w : World} {ops : Array Oper} {rest : List Oper} {o : Oper} {a : Act} {Q : Exit → Act → World → Prop} (hgd : o.guard = none) (s x : Operand)
    (ho : o.op = .call { callee := .builtin .append, args := #[s, x], argTypes := #[22, 22] })
    (base : Nat) (v : Value) (L : List OV) (hs : a.eval s = v) (hown : OwnO w base v L)
    (u : Value) (M : List OV) (hx : a.eval x = u) (hM : RowO w u M)
    (h63 : L.length + M.length ≤ 33554432) (hbase : base ≤ w.heap.size)
    (h : ∀ v' w', OwnO w' base v' (L ++ M) → w.grownBy w' v.ownBlock → wpList Tryz.prog ops Q rest (a.put o.dst v') w') : wpList Tryz.prog ops Q (o :: rest) a w := by
  obtain ⟨i, z, hi, hz, hz1, hz2, hz3⟩ := infoOp
  obtain ⟨p, cap, rfl, hcap, hnz, hc⟩ := hM
  cases p with
  | none =>
    have hM0 : M = [] := List.eq_nil_of_length_eq_zero (by have := hnz rfl; omega)
    have hcap0 := hnz rfl
    subst hM0
    subst hcap0
    exact wpList_append_own_none hgd s x 22 ho base 48 i 7 Tryz.underlying22 hi v L.length (cellsO L) hs hown hx (h v w (by simpa using hown) ⟨rfl, rfl, rfl, Nat.le_refl _, fun _ _ _ => rfl⟩)
  | some ad =>
    refine wpList_append_own _ hgd s x _ ho base 48 i z 7 88 Tryz.underlying22 hi hz hz1 hz2 hz3 (by decide) v L.length (cellsO L) hs hown ad M.length cap (cellsO M) hx (cellsO_len M) (fun j y hj => ?_) (cellsO_one _) (by unfold maxLen; omega) (by omega) hbase (fun v' w' h1 h2 _ => h v' w' ?_ h2)
    · obtain ⟨i, d, hd, hh⟩ := cellsO_inv M j y hj
      obtain ⟨b, off, hp, h0, h1, h2, h3, h4, h5, h6⟩ := hc i d hd
      obtain rfl := Option.some.inj hp
      rw [Addr.add_lit]
      rcases hh with ⟨rfl, rfl⟩ | ⟨rfl, rfl⟩ | ⟨rfl, rfl⟩ | ⟨rfl, rfl⟩ | ⟨rfl, rfl⟩ | ⟨rfl, rfl⟩ | ⟨rfl, rfl⟩
      · exact h0
      · exact h1
      · exact h2
      · exact h3
      · exact h4
      · exact h5
      · exact h6
    · show w'.ownsRow _ _ _ _ _ _
      rw [cellsO_append, List.length_append]
      exact h1
/-- What operations in memory are, their lists the call's own. -/
def OwD (w : World) (B : Nat) (D : List OV) (E : List Op5) : Prop := All2 (fun (d : OV) (e : Op5) => d.1 = e.k ∧ d.2.1 = e.t ∧ d.2.2.1 = e.v ∧ d.2.2.2.1 = e.c ∧ OwnA w B (slV d.2.2.2.2) e.A) D E
theorem OwD.below {w w' : World} {B : Nat} {D : List OV} {E : List Op5} (h : OwD w B D E) (b : Below w.heap.size w w') : OwD w' B D E := All2.imp (fun d e h => ⟨h.1, h.2.1, h.2.2.1, h.2.2.2.1, owns_below h.2.2.2.2 b⟩) h
theorem OwD.keep {w w' : World} {B : Nat} {D : List OV} {E : List Op5} (h : OwD w B D E) (b : KeepA w w') : OwD w' B D E := All2.imp (fun d e h => ⟨h.1, h.2.1, h.2.2.1, h.2.2.2.1, keepA_own h.2.2.2.2 b⟩) h
theorem OwD.weaken {w : World} {B B' : Nat} {D : List OV} {E : List Op5} (h : OwD w B D E) (hb : B' ≤ B) : OwD w B' D E := All2.imp (fun d e h => ⟨h.1, h.2.1, h.2.2.1, h.2.2.2.1, own_weaken h.2.2.2.2 hb⟩) h
theorem OwD.re {w : World} {B : Nat} {D : List OV} {E : List Op5} (h : OwD w B D E) : ReD w D E := All2.imp (fun d e h => ⟨h.1, h.2.1, h.2.2.1, h.2.2.2.1, own_RN h.2.2.2.2⟩) h
/-- A list of operations, the call's own. -/
def CoO (w : World) (B : Nat) (v : Value) (E : List Op5) : Prop := ∃ D, OwnO w B v D ∧ OwD w B D E
theorem CoO.below {w w' : World} {B : Nat} {v : Value} {E : List Op5} (h : CoO w B v E) (b : Below w.heap.size w w') : CoO w' B v E := by
  obtain ⟨D, h1, h2⟩ := h
  exact ⟨D, owns_below h1 b, h2.below b⟩
theorem CoO.re {w : World} {B : Nat} {v : Value} {E : List Op5} (h : CoO w B v E) : ReO w v E := by
  obtain ⟨D, h1, h2⟩ := h
  exact ⟨D, own_rowO h1, h2.re⟩

end Go.Proofs.YtfllomfjhkgaoaaGreatDoor

/- ops: what a piece bears; plain retains; what may follow what. -/
namespace Go.Proofs.YtfllomfjhkgaoaaGreatDoor
open Go Go.RowKit Go.Lib
set_option linter.unusedVariables false

theorem pieceQ_1 {o : Op5} {s : Value} (h : o.k = 1) : pieceQ o s = .iface 125 (.agg #[s, .string o.t, .int .i64 (scs o.t.data.toList).length]) := by unfold pieceQ; rw [if_pos h]
theorem pieceQ_2 {o : Op5} {s : Value} (h : o.k = 2) : pieceQ o s = .iface 157 (.agg #[s, .string o.t, valP o.v]) := by unfold pieceQ; rw [if_neg (by omega), if_pos h]
theorem pieceQ_3 {o : Op5} {s : Value} (h : o.k = 3) : pieceQ o s = .iface 117 (.agg #[s, .int .i64 o.c]) := by unfold pieceQ; rw [if_neg (by omega), if_neg (by omega), if_pos h]
theorem pieceQ_4 {o : Op5} {s : Value} (h : o.k = 4) : pieceQ o s = .iface 89 (.agg #[.int .i64 o.c]) := by unfold pieceQ; rw [if_neg (by omega), if_neg (by omega), if_neg (by omega)]
/-- Is an operation a plain retain? -/
def plainR (o : Op5) : Bool := o.k == 3 && o.A.isEmpty
/-- May an operation stand right behind another one in a canonical list? -/
def apartB (x y : Op5) : Bool := if x.k = 4 then y.k == 3 else if x.k ≠ y.k ∨ x.k = 2 then true else !decide (x.A = y.A)
theorem drop_A {o : Op5} (h : opE o = 0) (hk : o.k = 4) : o.A = [] := by
  rcases op_good h with ⟨_, h1⟩ | ⟨_, _, h1⟩ | ⟨_, h2, _⟩
  · omega
  · omega
  · exact h2

set_option maxHeartbeats 1000000 in
theorem borne_any (o : Op5) (s : Value) (w : World) (hR : RN w s o.A) (hg : opE o = 0) (hl : o.A.length ≤ 2097152) :
    Calls Tryz.prog 71 #[pieceQ o s] w fun r w' => ∃ v', r = .returned v' ∧ OwnA w' w.heap.size v' o.A ∧ Below w.heap.size w w' := by
  have HC : Calls Tryz.prog 141 #[.agg #[s]] w fun r w' => ∃ v', r = .returned v' ∧ OwnA w' w.heap.size v' o.A ∧ Below w.heap.size w w' := attributes_any s o.A w hR.row hR.nz hl
  obtain ⟨p, l, cc, rfl⟩ : ∃ p l c, s = .slice p l c := by obtain ⟨p, c, h, _⟩ := hR.row.val; exact ⟨_, _, _, h⟩
  have hd := drop_A hg
  have hk := kinds_of hg
  clear hR hl hg
  obtain ⟨V, hV⟩ : ∃ V, valP o.v = V := ⟨_, rfl⟩
  obtain ⟨nn, hnn⟩ : ∃ x : Int, ((scs o.t.data.toList).length : Int) = x := ⟨_, rfl⟩
  rcases hk with h | h | h | h
  · rw [pieceQ_1 h]
    rw [hnn]
    clear hd h hV hnn
    have a1 := as_i_b
    go_enter Tryz.func71, Tryz.ntmps71
    go_wp2_with fail
    refine HC.mono ?_; rintro r w2 ⟨v', rfl, own, hb2⟩
    have O2 : Hid (OwnA w2 w.heap.size v' o.A) := own
    clear HC own
    go_wp2
    go_ret
    exact ⟨_, rfl, O2.out, hb2⟩
  · rw [pieceQ_2 h]
    rw [hV]
    clear hd h hV hnn
    have a1 := as_e_b
    go_enter Tryz.func71, Tryz.ntmps71
    go_wp2_with fail
    refine HC.mono ?_; rintro r w2 ⟨v', rfl, own, hb2⟩
    have O2 : Hid (OwnA w2 w.heap.size v' o.A) := own
    clear HC own
    go_wp2
    go_ret
    exact ⟨_, rfl, O2.out, hb2⟩
  · rw [pieceQ_3 h]
    clear hd h hV hnn
    have a1 := as_r_b
    go_enter Tryz.func71, Tryz.ntmps71
    go_wp2_with fail
    refine HC.mono ?_; rintro r w2 ⟨v', rfl, own, hb2⟩
    have O2 : Hid (OwnA w2 w.heap.size v' o.A) := own
    clear HC own
    go_wp2
    go_ret
    exact ⟨_, rfl, O2.out, hb2⟩
  · rw [pieceQ_4 h]
    have hA : Hid (o.A = []) := hd h
    clear hd h hV hnn HC
    have a1 := as_d_b
    go_enter Tryz.func71, Tryz.ntmps71
    go_wp2
    go_ret
    exact ⟨.slice none 0 0, rfl, by rw [hA.out]; exact ⟨rfl, Or.inl ⟨rfl, rfl⟩⟩, Below.refl _ _⟩
set_option maxHeartbeats 1000000 in
theorem plainR_any (o : Op5) (s : Value) (w : World) (hR : RN w s o.A) (hg : opE o = 0) (hl : o.A.length ≤ 2097152) :
    Calls Tryz.prog 56 #[pieceQ o s] w fun r w' => r = .returned (.bool (plainR o)) ∧ Below w.heap.size w w' := by
  have HC : ∀ W, Below w.heap.size w W → Calls Tryz.prog 71 #[pieceQ o s] W fun r w' => ∃ v', r = .returned v' ∧ OwnA w' W.heap.size v' o.A ∧ Below W.heap.size W w' := fun W hW => borne_any o s W (hR.below hW) hg hl
  obtain ⟨p, l, cc, rfl⟩ : ∃ p l c, s = .slice p l c := by obtain ⟨p, c, h, _⟩ := hR.row.val; exact ⟨_, _, _, h⟩
  have hk := kinds_of hg
  clear hR hl hg
  obtain ⟨V, hV⟩ : ∃ V, valP o.v = V := ⟨_, rfl⟩
  obtain ⟨nn, hnn⟩ : ∃ x : Int, ((scs o.t.data.toList).length : Int) = x := ⟨_, rfl⟩
  rcases hk with h | h | h | h
  · rw [pieceQ_1 h] at HC ⊢
    rw [hnn] at HC ⊢
    have hp : Hid (plainR o = false) := by show plainR o = false; unfold plainR; rw [h]; rfl
    clear h hV hnn HC
    have a1 := as_i_r
    go_enter Tryz.func56, Tryz.ntmps56
    go_wp2
    go_ret
    exact ⟨by rw [hp.out]; rfl, by go_grown⟩
  · rw [pieceQ_2 h] at HC ⊢
    rw [hV] at HC ⊢
    have hp : Hid (plainR o = false) := by show plainR o = false; unfold plainR; rw [h]; rfl
    clear h hV hnn HC
    have a1 := as_e_r
    go_enter Tryz.func56, Tryz.ntmps56
    go_wp2
    go_ret
    exact ⟨by rw [hp.out]; rfl, by go_grown⟩
  · rw [pieceQ_3 h] at HC ⊢
    obtain ⟨n, hn⟩ : ∃ n, o.A.length = n := ⟨_, rfl⟩
    have hp : Hid (plainR o = decide (n = 0)) := by
      show plainR o = _
      unfold plainR
      rw [h]
      cases e : o.A with
      | nil => rw [e] at hn; simp only [List.length_nil] at hn; subst hn; rfl
      | cons x r => rw [e] at hn; simp only [List.length_cons] at hn; rw [decide_eq_false (by omega)]; rfl
    have HN : Hid (o.A.length = n) := hn
    clear h hV hnn hn
    have a1 := as_r_r
    have c1 := HC _ ((Below.refl w.heap.size w).alloc (Nat.le_refl _) (.cells #[.slice p l cc, .int .i64 o.c] 117))
    have b0 := (Below.refl w.heap.size w).alloc (Nat.le_refl _) (.cells #[.slice p l cc, .int .i64 o.c] 117)
    clear HC
    have hz : ((n : Int) == 0) = decide (n = 0) := by rw [Bool.eq_iff_iff]; simp
    go_enter Tryz.func56, Tryz.ntmps56
    go_wp2_with (go_at_call 71; refine c1.mono ?_; rintro r w2 ⟨v', rfl, own, hb2⟩; obtain ⟨p', c', rfl⟩ := own_slice own; have b2 := b0.trans (hb2.mono b0.size); clear c1 b0 hb2 own; rw [HN.out])
    go_ret
    exact ⟨by rw [hp.out]; rfl, b2⟩
  · rw [pieceQ_4 h] at HC ⊢
    have hp : Hid (plainR o = false) := by show plainR o = false; unfold plainR; rw [h]; rfl
    clear h hV hnn HC
    have a1 := as_d_r
    go_enter Tryz.func56, Tryz.ntmps56
    go_wp2
    go_ret
    exact ⟨by rw [hp.out]; rfl, by go_grown⟩
set_option maxHeartbeats 1000000 in
theorem mayF_any (x y : Op5) (s s' : Value) (w : World) (hR : RN w s x.A) (hR' : RN w s' y.A) (hg : opE x = 0) (hg' : opE y = 0) (hl : x.A.length ≤ 2097152) (hl' : y.A.length ≤ 2097152) :
    Calls Tryz.prog 55 #[pieceQ x s, pieceQ y s'] w fun r w' => r = .returned (.bool (apartB x y)) ∧ Below w.heap.size w w' := by
  have HC : Hid (∀ W, Below w.heap.size w W → Calls Tryz.prog 71 #[pieceQ x s] W fun r w' => ∃ v', r = .returned v' ∧ OwnA w' W.heap.size v' x.A ∧ Below W.heap.size W w') := fun W hW => borne_any x s W (hR.below hW) hg hl
  have HC' : Hid (∀ W, Below w.heap.size w W → Calls Tryz.prog 71 #[pieceQ y s'] W fun r w' => ∃ v', r = .returned v' ∧ OwnA w' W.heap.size v' y.A ∧ Below W.heap.size W w') := fun W hW => borne_any y s' W (hR'.below hW) hg' hl'
  have HS : Hid (∀ W v v', RowA W v x.A → RowA W v' y.A → Calls Tryz.prog 70 #[v, v'] W fun r w' => r = .returned (.bool (decide (x.A = y.A))) ∧ Below W.heap.size W w') := fun W v v' h1 h2 => same_any' v v' x.A y.A W h1 h2 (by omega) (by omega)
  obtain ⟨p, l, cc, rfl⟩ : ∃ p l c, s = .slice p l c := by obtain ⟨p, c, h, _⟩ := hR.row.val; exact ⟨_, _, _, h⟩
  obtain ⟨p', l', cc', rfl⟩ : ∃ p l c, s' = .slice p l c := by obtain ⟨p, c, h, _⟩ := hR'.row.val; exact ⟨_, _, _, h⟩
  have hk := kinds_of hg
  have hk' := kinds_of hg'
  clear hR hl hg hR' hl' hg'
  obtain ⟨V, hV⟩ : ∃ V, valP x.v = V := ⟨_, rfl⟩
  obtain ⟨V', hV'⟩ : ∃ V, valP y.v = V := ⟨_, rfl⟩
  obtain ⟨nn, hnn⟩ : ∃ z : Int, ((scs x.t.data.toList).length : Int) = z := ⟨_, rfl⟩
  obtain ⟨nn', hnn'⟩ : ∃ z : Int, ((scs y.t.data.toList).length : Int) = z := ⟨_, rfl⟩
  obtain ⟨tx, htx⟩ : ∃ z, x.t = z := ⟨_, rfl⟩
  obtain ⟨ty, hty⟩ : ∃ z, y.t = z := ⟨_, rfl⟩
  obtain ⟨cx, hcx⟩ : ∃ z, x.c = z := ⟨_, rfl⟩
  obtain ⟨cy, hcy⟩ : ∃ z, y.c = z := ⟨_, rfl⟩
  rcases hk with h | h | h | h
  · rcases hk' with h' | h' | h' | h'
    · have hv : Hid (apartB x y = (!decide (x.A = y.A))) := by show apartB x y = _; unfold apartB; rw [if_neg (by omega), if_neg (by omega)]
      have cA := HC.out
      have cB := HC'.out
      have cS := HS.out
      rw [pieceQ_1 h, hnn, htx] at cA
      rw [pieceQ_1 h', hnn', hty] at cB
      have cA : Hid _ := cA
      have cB : Hid _ := cB
      have cS : Hid _ := cS
      rw [pieceQ_1 h, hnn, htx, pieceQ_1 h', hnn', hty]
      clear h h' hV hV' hnn hnn' htx hty hcx hcy HC HC' HS
      have a0 := as_i_i
      have a1 := as_i_r
      have a2 := as_i_d
      have b0 : Below w.heap.size w ((w.alloc (.cells #[.slice p' l' cc', .string ty, .int .i64 nn'] 125)).alloc (.cells #[.slice none 0 0, .int .i64 0] 117)) := ((Below.refl w.heap.size w).alloc (Nat.le_refl _) _).alloc (by simp) _
      have c1 := cA.out _ b0
      obtain ⟨sm, hsm⟩ : ∃ z, decide (x.A = y.A) = z := ⟨_, rfl⟩
      rw [hsm] at cS hv
      clear hsm
      go_enter Tryz.func55, Tryz.ntmps55
      go_wp2_with fail
      refine c1.mono ?_; rintro r w2 ⟨v1, rfl, own1, hb2⟩
      obtain ⟨p1, c1', rfl⟩ := own_slice own1
      have b2 := b0.trans (hb2.mono b0.size)
      have c2 := cB.out _ b2
      have R1 : Hid (RowA w2 (.slice p1 x.A.length c1') x.A) := own_rowA own1
      clear c1 own1 hb2 b0
      go_wp2_with fail
      refine c2.mono ?_; rintro r w3 ⟨v2, rfl, own2, hb3⟩
      obtain ⟨p2, c2', rfl⟩ := own_slice own2
      have b3 := b2.trans (hb3.mono b2.size)
      have c3 := cS.out w3 _ _ (R1.out.below hb3) (own_rowA own2)
      clear c2 own2 hb3 b2 R1
      go_wp2_with fail
      refine c3.mono ?_; rintro r w4 ⟨rfl, hb4⟩
      have b4 := b3.trans (hb4.mono b3.size)
      clear c3 b3 hb4
      go_wp2
      go_ret
      exact ⟨by rw [hv.out]; rfl, b4⟩
    · have hv : Hid (apartB x y = (true)) := by show apartB x y = _; unfold apartB; rw [h, h']; rfl
      rw [pieceQ_1 h, hnn, htx, pieceQ_2 h', hV', hty]
      clear h h' hV hV' hnn hnn' htx hty hcx hcy HC HC' HS
      have a0 := as_e_i
      have a1 := as_e_r
      have a2 := as_i_d
      have a3 := as_i_i
      go_enter Tryz.func55, Tryz.ntmps55
      go_wp2
      go_ret
      exact ⟨by rw [hv.out]; rfl, by go_grown⟩
    · have hv : Hid (apartB x y = (true)) := by show apartB x y = _; unfold apartB; rw [h, h']; rfl
      rw [pieceQ_1 h, hnn, htx, pieceQ_3 h', hcy]
      clear h h' hV hV' hnn hnn' htx hty hcx hcy HC HC' HS
      have a0 := as_r_i
      have a1 := as_r_r
      have a2 := as_i_d
      have a3 := as_i_i
      go_enter Tryz.func55, Tryz.ntmps55
      go_wp2
      go_ret
      exact ⟨by rw [hv.out]; rfl, by go_grown⟩
    · have hv : Hid (apartB x y = (true)) := by show apartB x y = _; unfold apartB; rw [h, h']; rfl
      rw [pieceQ_1 h, hnn, htx, pieceQ_4 h', hcy]
      clear h h' hV hV' hnn hnn' htx hty hcx hcy HC HC' HS
      have a0 := as_d_i
      have a1 := as_d_r
      have a2 := as_i_d
      have a3 := as_i_i
      go_enter Tryz.func55, Tryz.ntmps55
      go_wp2
      go_ret
      exact ⟨by rw [hv.out]; rfl, by go_grown⟩
  · rcases hk' with h' | h' | h' | h'
    · have hv : Hid (apartB x y = (true)) := by show apartB x y = _; unfold apartB; rw [h, h']; rfl
      rw [pieceQ_2 h, hV, htx, pieceQ_1 h', hnn', hty]
      clear h h' hV hV' hnn hnn' htx hty hcx hcy HC HC' HS
      have a0 := as_i_i
      have a1 := as_i_r
      have a2 := as_e_d
      have a3 := as_e_i
      have a4 := as_e_r
      go_enter Tryz.func55, Tryz.ntmps55
      go_wp2
      go_ret
      exact ⟨by rw [hv.out]; rfl, by go_grown⟩
    · have hv : Hid (apartB x y = (true)) := by show apartB x y = _; unfold apartB; rw [h, h']; rfl
      rw [pieceQ_2 h, hV, htx, pieceQ_2 h', hV', hty]
      clear h h' hV hV' hnn hnn' htx hty hcx hcy HC HC' HS
      have a0 := as_e_i
      have a1 := as_e_r
      have a2 := as_e_d
      go_enter Tryz.func55, Tryz.ntmps55
      go_wp2
      go_ret
      exact ⟨by rw [hv.out]; rfl, by go_grown⟩
    · have hv : Hid (apartB x y = (true)) := by show apartB x y = _; unfold apartB; rw [h, h']; rfl
      rw [pieceQ_2 h, hV, htx, pieceQ_3 h', hcy]
      clear h h' hV hV' hnn hnn' htx hty hcx hcy HC HC' HS
      have a0 := as_r_i
      have a1 := as_r_r
      have a2 := as_e_d
      have a3 := as_e_i
      have a4 := as_e_r
      go_enter Tryz.func55, Tryz.ntmps55
      go_wp2
      go_ret
      exact ⟨by rw [hv.out]; rfl, by go_grown⟩
    · have hv : Hid (apartB x y = (true)) := by show apartB x y = _; unfold apartB; rw [h, h']; rfl
      rw [pieceQ_2 h, hV, htx, pieceQ_4 h', hcy]
      clear h h' hV hV' hnn hnn' htx hty hcx hcy HC HC' HS
      have a0 := as_d_i
      have a1 := as_d_r
      have a2 := as_e_d
      have a3 := as_e_i
      have a4 := as_e_r
      go_enter Tryz.func55, Tryz.ntmps55
      go_wp2
      go_ret
      exact ⟨by rw [hv.out]; rfl, by go_grown⟩
  · rcases hk' with h' | h' | h' | h'
    · have hv : Hid (apartB x y = (true)) := by show apartB x y = _; unfold apartB; rw [h, h']; rfl
      rw [pieceQ_3 h, hcx, pieceQ_1 h', hnn', hty]
      clear h h' hV hV' hnn hnn' htx hty hcx hcy HC HC' HS
      have a0 := as_i_i
      have a1 := as_i_r
      have a2 := as_r_d
      have a3 := as_r_i
      have a4 := as_r_r
      go_enter Tryz.func55, Tryz.ntmps55
      go_wp2
      go_ret
      exact ⟨by rw [hv.out]; rfl, by go_grown⟩
    · have hv : Hid (apartB x y = (true)) := by show apartB x y = _; unfold apartB; rw [h, h']; rfl
      rw [pieceQ_3 h, hcx, pieceQ_2 h', hV', hty]
      clear h h' hV hV' hnn hnn' htx hty hcx hcy HC HC' HS
      have a0 := as_e_i
      have a1 := as_e_r
      have a2 := as_r_d
      have a3 := as_r_i
      have a4 := as_r_r
      go_enter Tryz.func55, Tryz.ntmps55
      go_wp2
      go_ret
      exact ⟨by rw [hv.out]; rfl, by go_grown⟩
    · have hv : Hid (apartB x y = (!decide (x.A = y.A))) := by show apartB x y = _; unfold apartB; rw [if_neg (by omega), if_neg (by omega)]
      have cA := HC.out
      have cB := HC'.out
      have cS := HS.out
      rw [pieceQ_3 h, hcx] at cA
      rw [pieceQ_3 h', hcy] at cB
      have cA : Hid _ := cA
      have cB : Hid _ := cB
      have cS : Hid _ := cS
      rw [pieceQ_3 h, hcx, pieceQ_3 h', hcy]
      clear h h' hV hV' hnn hnn' htx hty hcx hcy HC HC' HS
      have a0 := as_r_i
      have a1 := as_r_r
      have a2 := as_r_d
      have b0 : Below w.heap.size w ((w.alloc (.cells #[.slice none 0 0, .string ⟨#[]⟩, .int .i64 0] 125)).alloc (.cells #[.slice p' l' cc', .int .i64 cy] 117)) := ((Below.refl w.heap.size w).alloc (Nat.le_refl _) _).alloc (by simp) _
      have c1 := cA.out _ b0
      obtain ⟨sm, hsm⟩ : ∃ z, decide (x.A = y.A) = z := ⟨_, rfl⟩
      rw [hsm] at cS hv
      clear hsm
      go_enter Tryz.func55, Tryz.ntmps55
      go_wp2_with fail
      refine c1.mono ?_; rintro r w2 ⟨v1, rfl, own1, hb2⟩
      obtain ⟨p1, c1', rfl⟩ := own_slice own1
      have b2 := b0.trans (hb2.mono b0.size)
      have c2 := cB.out _ b2
      have R1 : Hid (RowA w2 (.slice p1 x.A.length c1') x.A) := own_rowA own1
      clear c1 own1 hb2 b0
      go_wp2_with fail
      refine c2.mono ?_; rintro r w3 ⟨v2, rfl, own2, hb3⟩
      obtain ⟨p2, c2', rfl⟩ := own_slice own2
      have b3 := b2.trans (hb3.mono b2.size)
      have c3 := cS.out w3 _ _ (R1.out.below hb3) (own_rowA own2)
      clear c2 own2 hb3 b2 R1
      go_wp2_with fail
      refine c3.mono ?_; rintro r w4 ⟨rfl, hb4⟩
      have b4 := b3.trans (hb4.mono b3.size)
      clear c3 b3 hb4
      go_wp2
      go_ret
      exact ⟨by rw [hv.out]; rfl, b4⟩
    · have hv : Hid (apartB x y = (true)) := by show apartB x y = _; unfold apartB; rw [h, h']; rfl
      rw [pieceQ_3 h, hcx, pieceQ_4 h', hcy]
      clear h h' hV hV' hnn hnn' htx hty hcx hcy HC HC' HS
      have a0 := as_d_i
      have a1 := as_d_r
      have a2 := as_r_d
      have a3 := as_r_i
      have a4 := as_r_r
      go_enter Tryz.func55, Tryz.ntmps55
      go_wp2
      go_ret
      exact ⟨by rw [hv.out]; rfl, by go_grown⟩
  · rcases hk' with h' | h' | h' | h'
    · have hv : Hid (apartB x y = (false)) := by show apartB x y = _; unfold apartB; rw [h, h']; rfl
      rw [pieceQ_4 h, hcx, pieceQ_1 h', hnn', hty]
      clear h h' hV hV' hnn hnn' htx hty hcx hcy HC HC' HS
      have a0 := as_i_i
      have a1 := as_i_r
      have a2 := as_d_d
      go_enter Tryz.func55, Tryz.ntmps55
      go_wp2
      go_ret
      exact ⟨by rw [hv.out]; rfl, by go_grown⟩
    · have hv : Hid (apartB x y = (false)) := by show apartB x y = _; unfold apartB; rw [h, h']; rfl
      rw [pieceQ_4 h, hcx, pieceQ_2 h', hV', hty]
      clear h h' hV hV' hnn hnn' htx hty hcx hcy HC HC' HS
      have a0 := as_e_i
      have a1 := as_e_r
      have a2 := as_d_d
      go_enter Tryz.func55, Tryz.ntmps55
      go_wp2
      go_ret
      exact ⟨by rw [hv.out]; rfl, by go_grown⟩
    · have hv : Hid (apartB x y = (true)) := by show apartB x y = _; unfold apartB; rw [h, h']; rfl
      rw [pieceQ_4 h, hcx, pieceQ_3 h', hcy]
      clear h h' hV hV' hnn hnn' htx hty hcx hcy HC HC' HS
      have a0 := as_r_i
      have a1 := as_r_r
      have a2 := as_d_d
      go_enter Tryz.func55, Tryz.ntmps55
      go_wp2
      go_ret
      exact ⟨by rw [hv.out]; rfl, by go_grown⟩
    · have hv : Hid (apartB x y = (false)) := by show apartB x y = _; unfold apartB; rw [h, h']; rfl
      rw [pieceQ_4 h, hcx, pieceQ_4 h', hcy]
      clear h h' hV hV' hnn hnn' htx hty hcx hcy HC HC' HS
      have a0 := as_d_i
      have a1 := as_d_r
      have a2 := as_d_d
      go_enter Tryz.func55, Tryz.ntmps55
      go_wp2
      go_ret
      exact ⟨by rw [hv.out]; rfl, by go_grown⟩
end Go.Proofs.YtfllomfjhkgaoaaGreatDoor

/- A builder in memory: what stands while it is written; the strings.Builder that it bears. -/
namespace Go.Proofs.YtfllomfjhkgaoaaGreatDoor
open Go Go.RowKit Go.Lib
set_option linter.unusedVariables false

/-- Below B the memory stands, and what D says but for rows of bytes, and all rows of pairs. -/
structure FrB (B : Nat) (D : Nat → Prop) (w w' : World) : Prop where
  below : Below B w w'
  kept : ∀ (k : Nat) (o : Obj), w.heap[k]? = some o → D k → (∀ c fz, o ≠ .cells c 5 fz) → w'.heap[k]? = some o
  keepA : KeepA w w'
theorem FrB.refl (B : Nat) (D : Nat → Prop) (w : World) : FrB B D w w := ⟨Below.refl _ _, fun _ _ h _ _ => h, fun _ _ h => rfl⟩
theorem FrB.trans {B : Nat} {D : Nat → Prop} {a b c : World} (h : FrB B D a b) (k : FrB B D b c) : FrB B D a c :=
  ⟨h.below.trans k.below, fun i o ho hd hn => k.kept i o (h.kept i o ho hd hn) hd hn, h.keepA.trans k.keepA⟩
theorem FrB.mono {B : Nat} {D D' : Nat → Prop} {w w' : World} (h : FrB B D w w') (hd : ∀ k, D' k → D k) : FrB B D' w w' := ⟨h.below, fun i o ho hk hn => h.kept i o ho (hd i hk) hn, h.keepA⟩
theorem FrB.low {B B' : Nat} {D : Nat → Prop} {w w' : World} (h : FrB B D w w') (hb : B' ≤ B) : FrB B' D w w' := ⟨h.below.mono hb, h.kept, h.keepA⟩
theorem FrB.of_below {B : Nat} {D : Nat → Prop} {w w' : World} (h : Below w.heap.size w w') (hB : B ≤ w.heap.size) : FrB B D w w' :=
  ⟨h.mono hB, fun k o ho _ _ => (h.block k (Array.getElem?_eq_some_iff.1 ho).1).trans ho, keepA_below h⟩
theorem FrB.drew {B : Nat} {D : Nat → Prop} {a w : World} (h : FrB B D a w) : FrB B D a w.drew := ⟨h.below.drew, h.kept, h.keepA⟩
theorem FrB.drewN {B : Nat} {D : Nat → Prop} {a w : World} (h : FrB B D a w) (n : Nat) : FrB B D a (w.drewN n) := ⟨below_drewN h.below n, h.kept, h.keepA⟩
theorem FrB.alloc {B : Nat} {D : Nat → Prop} {a w : World} (h : FrB B D a w) (hB : B ≤ w.heap.size) (o : Obj) : FrB B D a (w.alloc o) :=
  h.trans (.of_below ((Below.refl _ _).alloc (Nat.le_refl _) _) hB)
theorem FrB.setCell {B : Nat} {D : Nat → Prop} {a w : World} (h : FrB B D a w) {g j : Nat} {cs : Array Value} {T : TypeId} {fz : Nat × Nat} (hg : w.heap[g]? = some (.cells cs T fz)) (hT : T ≠ 106) (hB : B ≤ g) (hD : ¬ D g) (u : Value) : FrB B D a (w.setCell ⟨g, j, none⟩ u) := by
  refine h.trans ⟨(Below.refl _ _).setCell (p := ⟨g, j, none⟩) hB u, fun k o ho hd hn => ?_, fun k cur hk => ?_⟩
  · rw [Below.heap_setCell _ _ _ _ (by intro e; obtain rfl : k = g := e; exact hD hd)]; exact ho
  · refine Below.heap_setCell _ _ _ _ fun e => ?_
    obtain rfl : k = g := e
    rw [hg] at hk
    simp only [Option.some.injEq, Obj.cells.injEq] at hk
    exact hT hk.2.1
theorem FrB.grown {B : Nat} {D : Nat → Prop} {a w w' : World} {row : Option Nat} (h : FrB B D a w) (hg : w.grownBy w' row) (hB : B ≤ w.heap.size)
    (hr : ∀ k, row = some k → B ≤ k ∧ ∃ cs T fz, w.heap[k]? = some (.cells cs T fz) ∧ T ≠ 106 ∧ (D k → T = 5)) : FrB B D a w' := by
  refine h.trans ⟨(Below.refl _ _).grown hg hB (fun k hk => (hr k hk).1), fun k o ho hd hn => ?_, fun k cur hk => ?_⟩
  · refine (hg.block k (Array.getElem?_eq_some_iff.1 ho).1 fun e => ?_).trans ho
    obtain ⟨_, cs, T, fz, h1, _, h3⟩ := hr k e.symm
    rw [h1] at ho
    obtain rfl := Option.some.inj ho
    obtain rfl := h3 hd
    exact hn _ _ rfl
  · refine hg.block k (Array.getElem?_eq_some_iff.1 hk).1 fun e => ?_
    obtain ⟨_, cs, T, fz, h1, h2, _⟩ := hr k e.symm
    rw [h1] at hk
    simp only [Option.some.injEq, Obj.cells.injEq] at hk
    exact h2 hk.2.1
theorem heap_freeze (w : World) (p : Addr) (n k : Nat) (h : k ≠ p.block) : (w.freeze p n).heap[k]? = w.heap[k]? := by
  unfold World.freeze
  split
  · rfl
  · simp only [Array.getElem?_modify]
    rw [if_neg (fun e => h e.symm)]
theorem FrB.freeze {B : Nat} {D : Nat → Prop} {a w : World} (h : FrB B D a w) {g n : Nat} {cs : Array Value} {fz : Nat × Nat} (hg : w.heap[g]? = some (.cells cs 5 fz)) (hB : B ≤ g) : FrB B D a (w.freeze ⟨g, 0, none⟩ n) := by
  refine h.trans ⟨Lib.below_freeze (Below.refl B w) (p := ⟨g, 0, none⟩) hB _, fun k o ho hd hn => ?_, fun k cur hk => ?_⟩
  · refine (heap_freeze _ _ _ _ fun e => ?_).trans ho
    obtain rfl : k = g := e
    rw [hg] at ho
    obtain rfl := Option.some.inj ho
    exact hn _ _ rfl
  · refine heap_freeze _ _ _ _ fun e => ?_
    obtain rfl : k = g := e
    rw [hg] at hk
    simp only [Option.some.injEq, Obj.cells.injEq] at hk
    exact absurd hk.2.1 (by decide)

theorem infoU8 : ∃ i, Tryz.prog.info? 5 = some i ∧ i.zero = some (.int .u8 0) ∧ i.size = 1 ∧ i.bytes = 1 := by
  obtain ⟨i, hi, h⟩ := Option.map_eq_some_iff.1 (show (Tryz.prog.info? 5).map (fun i => (i.zero, i.size, i.bytes)) = some (some (.int .u8 0), 1, 1) by kernel_rfl)
  simp only [Prod.mk.injEq] at h
  exact ⟨i, hi, h.1, h.2.1, h.2.2⟩

/-- The six cells of a builder; the last two are its strings.Builder's, which holds l. -/
structure Sbd (w : World) (B g : Nat) (c0 c1 c2 c3 av jv : Value) (l : List UInt8) : Prop where
  lo : B ≤ g
  at_ : w.heap[g]? = some (.cells #[c0, c1, c2, c3, av, jv] 84 (0, 0))
  buf : w.ownsRowF B 5 1 jv l.length (byteCells l)
  adr : av = .pointer none ∨ av = .pointer (some ⟨g, 4, none⟩)
def SbE (w : World) (B g : Nat) (c0 c1 c2 c3 : Value) (l : List UInt8) : Prop := ∃ av jv, Sbd w B g c0 c1 c2 c3 av jv l
theorem Sbd.lt {w : World} {B g : Nat} {c0 c1 c2 c3 av jv : Value} {l : List UInt8} (h : Sbd w B g c0 c1 c2 c3 av jv l) : g < w.heap.size := (Array.getElem?_eq_some_iff.1 h.at_).1
theorem Sbd.ne {w : World} {B g : Nat} {c0 c1 c2 c3 av jv : Value} {l : List UInt8} (h : Sbd w B g c0 c1 c2 c3 av jv l) : jv.ownBlock ≠ some g := ownBlock_neF h.buf h.at_ (by decide)
theorem rowF_same {w w' : World} {B : Nat} {e : TypeId} {v : Value} {n : Nat} {xs : List Value} (h : w.ownsRowF B e 1 v n xs) (hk : ∀ k, v.ownBlock = some k → w'.heap[k]? = w.heap[k]?) : w'.ownsRowF B e 1 v n xs := by
  refine ⟨h.1, ?_⟩
  rcases h.2 with hn | ⟨g, cap, cur, fz, rfl, hb, hgg, rest⟩
  · exact .inl hn
  · exact .inr ⟨g, cap, cur, fz, rfl, hb, (hk g rfl).trans hgg, rest⟩
theorem Sbd.set4 {w : World} {B g : Nat} {c0 c1 c2 c3 av jv : Value} {l : List UInt8} (h : Sbd w B g c0 c1 c2 c3 av jv l) (q : Value) (hq : q = .pointer none ∨ q = .pointer (some ⟨g, 4, none⟩)) : Sbd (w.setCell ⟨g, 4, none⟩ q) B g c0 c1 c2 c3 q jv l :=
  ⟨h.lo, by rw [heap_set_at _ _ _ _ _ _ _ h.at_]; rfl, rowF_same h.buf fun k hk => Below.heap_setCell _ _ _ _ (fun e => h.ne (by rw [hk, e])), hq⟩
theorem Sbd.set5 {w : World} {B g : Nat} {c0 c1 c2 c3 av jv jv' : Value} {l' : List UInt8} (hlo : B ≤ g) (hat : w.heap[g]? = some (.cells #[c0, c1, c2, c3, av, jv] 84 (0, 0))) (hbuf : w.ownsRowF B 5 1 jv' l'.length (byteCells l')) (hadr : av = .pointer none ∨ av = .pointer (some ⟨g, 4, none⟩)) : Sbd (w.setCell ⟨g, 5, none⟩ jv') B g c0 c1 c2 c3 av jv' l' :=
  ⟨hlo, by rw [heap_set_at _ _ _ _ _ _ _ hat]; rfl, rowF_same hbuf fun k hk => Below.heap_setCell _ _ _ _ (fun e => ownBlock_neF hbuf hat (by decide) (by rw [hk, e])), hadr⟩
theorem strCells_byte (s : ByteArray) : strCells s = byteCells s.data.toList := rfl

set_option maxHeartbeats 1000000 in
theorem sbLen_any (B g : Nat) (c0 c1 c2 c3 : Value) (l : List UInt8) (w : World) (h : SbE w B g c0 c1 c2 c3 l) :
    Calls Tryz.prog 105 #[.pointer (some ⟨g, 4, none⟩)] w fun e w' => e = .returned (.int .i64 l.length) ∧ w' = w := by
  obtain ⟨av, jv, h⟩ := h
  obtain ⟨p, n, cap, rfl, hn⟩ : ∃ p n cap, jv = .slice p n cap ∧ n = l.length := by
    rcases h.buf.2 with ⟨rfl, h0⟩ | ⟨g', cap, cur, fz, rfl, _⟩
    · exact ⟨none, 0, 0, rfl, h0.symm⟩
    · exact ⟨_, _, _, rfl, rfl⟩
  have c5 : w.cell? ⟨g, 5, none⟩ = some (.slice p n cap) := by rw [cell_of_heap h.at_]; rfl
  rw [← hn]
  clear h hn
  go_enter Tryz.func105, Tryz.ntmps105
  go_wp2
  go_ret
  exact ⟨rfl, rfl⟩
set_option maxHeartbeats 1000000 in
set_option maxRecDepth 100000 in
theorem sbCheck_any (B g : Nat) (c0 c1 c2 c3 : Value) (l : List UInt8) (w : World) (h : SbE w B g c0 c1 c2 c3 l) :
    Calls Tryz.prog 115 #[.pointer (some ⟨g, 4, none⟩)] w fun e w' => e = .returned (.tuple #[]) ∧ (∃ jv, Sbd w' B g c0 c1 c2 c3 (.pointer (some ⟨g, 4, none⟩)) jv l) ∧ FrB B (fun k => k ≠ g) w w' := by
  obtain ⟨av, jv, h⟩ := h
  have c4 : w.cell? ⟨g, 4, none⟩ = some av := by rw [cell_of_heap h.at_]; rfl
  have f4 : w.frozen? ⟨g, 4, none⟩ = false := frozen_of_heap h.at_ 4
  have HF : Hid (FrB B (fun k => k ≠ g) w (w.setCell ⟨g, 4, none⟩ (.pointer (some ⟨g, 4, none⟩)))) := (FrB.refl _ _ w).setCell h.at_ (by decide) h.lo (by simp) _
  have HS : Hid (Sbd (w.setCell ⟨g, 4, none⟩ (.pointer (some ⟨g, 4, none⟩))) B g c0 c1 c2 c3 (.pointer (some ⟨g, 4, none⟩)) jv l) := h.set4 _ (Or.inr rfl)
  have hsh : w.shape? g = some (84, 6) := by simp [World.shape?, h.at_]
  obtain ⟨j, hj, hjs⟩ := Option.map_eq_some_iff.1 (show (Tryz.prog.info? 82).map (·.size) = some 2 by kernel_rfl)
  rcases h.adr with rfl | rfl
  · clear h
    go_enter Tryz.func115, Tryz.ntmps115
    go_wp2
    rw [Lib.run_to_unsafe w ⟨g, 4, none⟩ Tryz.underlying79 Tryz.underlying187 hj (by rw [hjs]; decide) hsh (by decide : 4 < 6)]
    simp only [Result.andThen]
    rw [Oper.upon_value]
    go_wp2
    rw [run_callFunc_extern Tryz.func121 (by kernel_rfl) (by kernel_rfl) (by kernel_rfl) (e := Extern.AbiNoEscape.same) (by kernel_rfl)]
    rw [Lib.run_noEscape]
    simp only [Result.andThen]
    rw [Oper.upon_value]
    go_wp2
    rw [Lib.run_from_unsafe w ⟨g, 4, none⟩ Tryz.underlying187 Tryz.underlying79 hj hsh (by kernel_rfl)]
    simp only [Result.andThen]
    rw [Oper.upon_value]
    go_wp2
    go_end0
    exact ⟨rfl, ⟨jv, HS.out⟩, HF.out⟩
  · have HS2 : Hid (Sbd w B g c0 c1 c2 c3 (.pointer (some ⟨g, 4, none⟩)) jv l) := h
    clear h
    go_enter Tryz.func115, Tryz.ntmps115
    go_wp2
    rw [Lib.run_neq_ptr_same w _ Tryz.underlying79 hj]
    go_wp2
    go_end0
    exact ⟨rfl, ⟨jv, HS2.out⟩, FrB.refl _ _ _⟩
set_option maxHeartbeats 2000000 in
set_option maxRecDepth 100000 in
theorem sbWrite_any (B g : Nat) (c0 c1 c2 c3 : Value) (l : List UInt8) (s : ByteArray) (w : World) (h : SbE w B g c0 c1 c2 c3 l) (hlen : l.length + s.size ≤ 140737488355328) (hBw : B ≤ w.heap.size) :
    Calls Tryz.prog 106 #[.pointer (some ⟨g, 4, none⟩), .string s] w fun e w' => e = .returned (.tuple #[.int .i64 s.size, .nilIface]) ∧ SbE w' B g c0 c1 c2 c3 (l ++ s.data.toList) ∧ FrB B (fun k => k ≠ g) w w' := by
  obtain ⟨i0, hi, hz0, hz1, hz2⟩ := infoU8
  have cc := sbCheck_any B g c0 c1 c2 c3 l w h
  clear h
  go_enter Tryz.func106, Tryz.ntmps106
  go_wp2_with fail
  refine cc.mono ?_; rintro e w1 ⟨rfl, ⟨jv, h1⟩, hf1⟩
  have c5 : w1.cell? ⟨g, 5, none⟩ = some jv := by rw [cell_of_heap h1.at_]; rfl
  have HH : Hid (Sbd w1 B g c0 c1 c2 c3 (.pointer (some ⟨g, 4, none⟩)) jv l ∧ FrB B (fun k => k ≠ g) w w1) := ⟨h1, hf1⟩
  clear cc h1 hf1
  go_wp2_with (at_builtin; refine Lib.wpList_append_own_stringF _ rfl _ _ 80 9 rfl B 5 i0 Tryz.underlying80 Tryz.underlying9 hi hz0 hz1 hz2 _ _ _ rfl HH.out.1.buf s rfl ?c3 ?c4 ?c5 ?_)
  case c3 => unfold maxLen; omega
  case c4 => omega
  case c5 => exact Nat.le_trans hBw HH.out.2.below.size
  intro v' w2 hown' hgrow _
  obtain ⟨h1, hf1⟩ := HH.out
  have hb2 : w2.heap[g]? = some (.cells #[c0, c1, c2, c3, .pointer (some ⟨g, 4, none⟩), jv] 84 (0, 0)) := by
    rw [hgrow.block g h1.lt (fun e => h1.ne e.symm)]
    exact h1.at_
  have d5 : w2.cell? ⟨g, 5, none⟩ = some jv := by rw [cell_of_heap hb2]; rfl
  have f5 : w2.frozen? ⟨g, 5, none⟩ = false := frozen_of_heap hb2 5
  obtain ⟨ao, n', cap, rfl⟩ : ∃ ao n' cap, v' = .slice ao n' cap := by
    rcases hown'.2 with ⟨hv, _⟩ | ⟨g', cap, cur, fz, hv, _⟩
    · exact ⟨_, _, _, hv⟩
    · exact ⟨_, _, _, hv⟩
  have HS : Hid (Sbd (w2.setCell ⟨g, 5, none⟩ (.slice ao n' cap)) B g c0 c1 c2 c3 (.pointer (some ⟨g, 4, none⟩)) (.slice ao n' cap) (l ++ s.data.toList)) := by
    refine Sbd.set5 h1.lo hb2 ?_ (Or.inr rfl)
    have e1 : byteCells (l ++ s.data.toList) = byteCells l ++ strCells s := by rw [strCells_byte]; simp [byteCells]
    rw [e1, List.length_append, size_toList]
    exact hown'
  have HF : Hid (FrB B (fun k => k ≠ g) w (w2.setCell ⟨g, 5, none⟩ (.slice ao n' cap))) := by
    refine (hf1.grown hgrow (Nat.le_trans hBw hf1.below.size) fun k hk => ?_).setCell hb2 (by decide) h1.lo (by simp) _
    obtain ⟨c, fz, hc⟩ := ownsRowF_kind h1.buf k hk
    exact ⟨(h1.buf.lt k hk).1, c, _, fz, hc, by decide, fun _ => rfl⟩
  clear HH h1 hf1 hb2 hown' hgrow c5
  go_wp2
  go_ret2
  exact ⟨rfl, ⟨_, _, HS.out⟩, HF.out⟩
set_option maxHeartbeats 2000000 in
set_option maxRecDepth 100000 in
theorem sbReset_any (B g : Nat) (c0 c1 c2 c3 : Value) (l : List UInt8) (w : World) (h : SbE w B g c0 c1 c2 c3 l) :
    Calls Tryz.prog 88 #[.pointer (some ⟨g, 4, none⟩)] w fun e w' => e = .returned (.tuple #[]) ∧ SbE w' B g c0 c1 c2 c3 [] ∧ FrB B (fun k => k ≠ g) w w' := by
  obtain ⟨av, jv, h⟩ := h
  have c4 : w.cell? ⟨g, 4, none⟩ = some av := by rw [cell_of_heap h.at_]; rfl
  have c5 : w.cell? ⟨g, 5, none⟩ = some jv := by rw [cell_of_heap h.at_]; rfl
  have f4 : w.frozen? ⟨g, 4, none⟩ = false := frozen_of_heap h.at_ 4
  have f5 : w.frozen? ⟨g, 5, none⟩ = false := frozen_of_heap h.at_ 5
  have h4 := h.set4 (.pointer none) (Or.inl rfl)
  have HS : Hid (Sbd ((w.setCell ⟨g, 4, none⟩ (.pointer none)).setCell ⟨g, 5, none⟩ (.slice none 0 0)) B g c0 c1 c2 c3 (.pointer none) (.slice none 0 0) []) := Sbd.set5 h.lo h4.at_ (World.ownsRowF_nil _ _ _ _) (Or.inl rfl)
  have HF : Hid (FrB B (fun k => k ≠ g) w ((w.setCell ⟨g, 4, none⟩ (.pointer none)).setCell ⟨g, 5, none⟩ (.slice none 0 0))) := ((FrB.refl _ _ w).setCell h.at_ (by decide) h.lo (by simp) _).setCell h4.at_ (by decide) h.lo (by simp) _
  clear h h4
  go_enter Tryz.func88, Tryz.ntmps88
  go_wp2
  go_end0
  exact ⟨rfl, ⟨_, _, HS.out⟩, HF.out⟩
set_option maxHeartbeats 2000000 in
set_option maxRecDepth 100000 in
theorem sbString_any (B g : Nat) (c0 c1 c2 c3 : Value) (l : List UInt8) (w : World) (h : SbE w B g c0 c1 c2 c3 l) (h0 : l ≠ []) :
    Calls Tryz.prog 107 #[.pointer (some ⟨g, 4, none⟩)] w fun e w' => e = .returned (.string ⟨l.toArray⟩) ∧ SbE w' B g c0 c1 c2 c3 l ∧ FrB B (fun k => k ≠ g) w w' := by
  obtain ⟨av, jv, h⟩ := h
  have hl0 : l.length ≠ 0 := by simpa using h0
  obtain ⟨r, cap, cur, fz, rfl, hbg, hg, hfz, hnc, hcm, hcs, htake⟩ : ∃ r cap cur fz, jv = .slice (some ⟨r, 0, none⟩) l.length cap ∧ B ≤ r ∧ w.heap[r]? = some (.cells cur 5 fz) ∧ fz.2 ≤ l.length * 1 ∧ l.length ≤ cap ∧ cap ≤ maxLen ∧ cur.size = cap * 1 ∧ cur.toList.take (l.length * 1) = byteCells l := by
    rcases h.buf.2 with ⟨_, hz⟩ | ⟨g', cap, cur, fz, hv, r⟩
    · exact absurd hz hl0
    · exact ⟨g', cap, cur, fz, hv, r⟩
  have c5 : w.drew.cell? ⟨g, 5, none⟩ = some (.slice (some ⟨r, 0, none⟩) l.length cap) := by
    have : w.drew.heap[g]? = _ := h.at_
    rw [cell_of_heap this]; rfl
  have hrg : r ≠ g := fun e => h.ne (by simp [Value.ownBlock, e])
  have hSD : (Builtin.unsafeSliceData_ #[80] 182 #[.slice (some ⟨r, 0, none⟩) l.length cap]).run Tryz.prog w.drew = .ok (.pointer (some ⟨r, 0, none⟩)) w.drew :=
    Lib.run_unsafeSliceData_row _ _ _ _ _ _ (by omega)
  have hcells : Tryz.prog.cellsOf 5 = 1 := by kernel_rfl
  have hUS : (Builtin.unsafeString_ #[182, 3] 9 #[.pointer (some ⟨r, 0, none⟩), .int .i64 l.length]).run Tryz.prog w.drew = .ok (.string ⟨l.toArray⟩) (w.drew.freeze ⟨r, 0, none⟩ l.length) := by
    refine Lib.run_unsafeString_row w.drew 182 3 9 5 Tryz.underlying182 hcells r cur.size (by have hg' : w.drew.heap[r]? = some (.cells cur 5 fz) := hg; simp [World.shape?, hg']) l h0 (by omega) (by unfold maxLen at hcm; omega) ?_
    intro j x hx
    have := h.buf.cells (g := r) rfl j (.int .u8 x.toNat) (by simp [byteCells, hx])
    exact this
  have HS : Hid (Sbd (w.drew.freeze ⟨r, 0, none⟩ l.length) B g c0 c1 c2 c3 av (.slice (some ⟨r, 0, none⟩) l.length cap) l) := by
    refine ⟨h.lo, (heap_freeze _ _ _ _ (fun e => hrg e.symm)).trans h.at_, ⟨h.buf.1, ?_⟩, h.adr⟩
    unfold World.freeze
    rw [if_neg (by simpa using hl0)]
    obtain ⟨lo, hi⟩ := fz
    refine .inr ⟨r, _, cur, (if lo == hi then (0, 0 + l.length) else (min lo 0, max hi (0 + l.length))), rfl, hbg, ?_, ?_, hnc, hcm, hcs, htake⟩
    · have hg' : w.drew.heap[r]? = some (.cells cur 5 (lo, hi)) := hg
      simp [Array.getElem?_modify, hg']
    · simp only at hfz
      split <;> simp <;> omega
  have HF : Hid (FrB B (fun k => k ≠ g) w (w.drew.freeze ⟨r, 0, none⟩ l.length)) := (FrB.refl _ _ w).drew.freeze (w := w.drew) (cs := cur) (fz := fz) hg hbg
  clear h hg hfz hnc hcm hcs htake hbg
  go_enter Tryz.func107, Tryz.ntmps107
  go_wp2
  go_region
  all_goals (go_wp2; go_ret; exact ⟨rfl, ⟨_, _, HS.out⟩, HF.out⟩)
end Go.Proofs.YtfllomfjhkgaoaaGreatDoor

/- ops.Canonical. -/
namespace Go.Proofs.YtfllomfjhkgaoaaGreatDoor
open Go Go.RowKit Go.Lib
set_option linter.unusedVariables false

/-- Each may follow the one ahead of it. -/
def chainB : List Op5 → Bool
  | x :: y :: r => apartB x y && chainB (y :: r)
  | _ => true
/-- The last one isn't a plain retain. -/
def lastP (E : List Op5) : Bool := match E.getLast? with | some o => !plainR o | none => true
/-- Is a list canonical? -/
def canonB (E : List Op5) : Bool := decide ((lensL E).2.2 = 0) && chainB E && lastP E
theorem chain_iff : ∀ {E : List Op5}, chainB E = true ↔ ∀ j x y, E[j]? = some x → E[j + 1]? = some y → apartB x y = true
  | [] => ⟨fun _ j x y h => by simp at h, fun _ => rfl⟩
  | [a] => ⟨fun _ j x y _ h => by simp at h, fun _ => rfl⟩
  | a :: b :: r => by
    rw [chainB, Bool.and_eq_true, chain_iff (E := b :: r)]
    constructor
    · rintro ⟨h1, h2⟩ j x y hx hy
      cases j with
      | zero =>
        obtain rfl : a = x := by simpa using hx
        obtain rfl : b = y := by simpa using hy
        exact h1
      | succ j => exact h2 j x y (by simpa using hx) (by simpa using hy)
    · intro h
      exact ⟨h 0 a b rfl rfl, fun j x y hx hy => h (j + 1) x y (by simpa using hx) (by simpa using hy)⟩
theorem lens_cases (E : List Op5) : (lensL E).2.2 = 0 ↔ (badP E).2 = 0 ∧ (sumL 0 0 E).2.2 = 0 := by
  unfold lensL
  by_cases h : (badP E).2 = 0
  · rw [if_neg (by simpa using h)]; exact ⟨fun h2 => ⟨h, h2⟩, fun h2 => h2.2⟩
  · rw [if_pos h]; exact ⟨fun h2 => absurd h2 h, fun h2 => absurd h2.1 h⟩

set_option maxHeartbeats 2000000 in
set_option maxRecDepth 100000 in
theorem canon_any {I : List Nat} {a : Nat → Addr} (v : Value) (E : List Op5) (w : World) (hI : ∀ i ∈ IxO, i ∈ I) (hS : Std I a w) (hv : ReO w v E) (hF : FitL E) (hl : E.length ≤ 1048576) :
    Calls Tryz.prog 25 #[v] w fun r w' => r = .returned (.bool (canonB E)) ∧ Below w.heap.size w w' := by
  have c1 := of_any v E w hI hS hv hF hl
  have c2 := fun W v' P (hW : Below w.heap.size w W) (h1 : OwnI W w.heap.size v' P) (h2 : PieD W w.heap.size P E) (h3 : (badP E).2 = 0) => sum_any v' P E w.heap.size W hI (hS.below hW) h1 h2 (bad_zero.1 h3) hF hl
  obtain ⟨D, ⟨p, cap, rfl, _, _, _⟩, hre⟩ := hv
  rw [forall2_len hre] at c1 ⊢
  clear hS hI hre
  have hlc := lens_cases E
  cases hb : (badP E).2 with
  | zero =>
    obtain ⟨S, hs⟩ : ∃ x, sumL 0 0 E = x := ⟨_, rfl⟩
    rw [hb, errOf_zero] at c1
    have hgood : ∀ o ∈ E, opE o = 0 := bad_zero.1 hb
    obtain ⟨i1, hi1⟩ : ∃ i : Int, ((badP E).1 : Int) = i := ⟨_, rfl⟩
    rw [hi1] at c1
    rw [hs] at c2 hlc
    rw [hb] at hlc
    obtain ⟨b9, r9, e9⟩ := S
    simp only [true_and] at c2 hlc
    cases e9 with
    | succ e =>
      have hcan : Hid (canonB E = false) := by
        show canonB E = false
        unfold canonB
        rw [decide_eq_false (fun h => by have := hlc.1 h; omega)]; rfl
      rw [errOf_succ] at c2
      have C2 : Hid _ := c2
      have HB : Hid ((badP E).2 = 0) := hb
      clear hb hs hi1 c2 hlc hgood
      go_enter Tryz.func25, Tryz.ntmps25
      go_wp2_with fail
      refine c1.mono ?_; rintro r w2 ⟨v', rfl, hok, _, hb2⟩
      obtain ⟨P, hP1, hP2⟩ := hok (by simp)
      have c3 := C2.out _ v' P hb2 hP1 hP2 HB.out
      clear c1 C2 hok hP1 hP2
      go_wp2_with fail
      refine c3.mono ?_; rintro r w3 ⟨rfl, hb3⟩
      have b3 := hb2.trans (hb3.mono hb2.size)
      clear c3 hb2 hb3
      go_wp2
      go_ret
      exact ⟨by rw [hcan.out]; rfl, b3⟩
    | zero =>
      rw [errOf_zero] at c2
      have HLZ : Hid ((lensL E).2.2 = 0) := hlc.2 rfl
      have C2 : Hid _ := c2
      have HB : Hid ((badP E).2 = 0) := hb
      have HGF : Hid (∀ o ∈ E, opE o = 0 ∧ Fit o) := fun o ho => ⟨hgood o ho, hF o ho⟩
      clear hb hs hi1 c2 hlc hgood hF
      go_enter Tryz.func25, Tryz.ntmps25
      go_wp2_with fail
      refine c1.mono ?_; rintro r w2 ⟨v', rfl, hok, _, hb2⟩
      obtain ⟨P, hP1, hP2⟩ := hok (by simp)
      have c3 := C2.out _ v' P hb2 hP1 hP2 HB.out
      obtain ⟨p', cap', rfl⟩ := own_slice hP1
      obtain ⟨n, hn⟩ : ∃ n, P.length = n := ⟨_, rfl⟩
      have hPE := forall2_len hP2
      have HN : Hid (E.length = n) := by show _ = _; omega
      rw [hn] at c3 ⊢
      have hln : n ≤ 1048576 := by omega
      have HV : Hid (∀ k, k < n → ∃ ga e s, p' = some ⟨ga, 0, none⟩ ∧ E[k]? = some e ∧ w2.cell? ⟨ga, k, none⟩ = some (pieceQ e s) ∧ RN w2 s e.A) := fun k hk => by
        obtain ⟨g, c, x, hv', hB, hx, hc⟩ := own_cell hP1 k (by omega)
        obtain ⟨e, s, he, rfl, ho⟩ := oneI hP2 hx
        simp only [Value.slice.injEq] at hv'
        exact ⟨g, e, s, hv'.1, he, hc, own_RN ho⟩
      clear c1 C2 hok hP1 hP2 hn hPE hl
      go_wp2_with fail
      refine c3.mono ?_; rintro r w3 ⟨rfl, hb3⟩
      have b3 := hb2.trans (hb3.mono hb2.size)
      clear c3
      go_wp2_with fail
      go_loopw [29] (fun i wr => ∃ (k : Nat), k ≤ n ∧ i = .int .i64 k ∧ Hid (∀ j x y, j + 1 < k → E[j]? = some x → E[j + 1]? = some y → apartB x y = true) ∧ Below w2.heap.size w2 wr) (fun i _ => n - (RowKit.intOf i).toNat)
      case atStart => exact ⟨0, Nat.zero_le _, rfl, fun j x y h => by omega, hb3⟩
      case round =>
        clear hb3 b3
        obtain ⟨k, hk, rfl, HCh, hbw⟩ := hrel
        by_cases hlt : k < n
        · have hltI : (k : Int) < n := by omega
          obtain ⟨ga, e, s, rfl, he, hc, hs⟩ := HV.out k hlt
          have c0 := (hbw.cell (lt_of_cell hc)).trans hc
          obtain ⟨u, x, hux⟩ := pieceQ_if e s
          rw [hux] at c0
          cases k with
          | zero =>
            have hz : decide ((0 : Int) < ((0 : Nat) : Int)) = false := by decide
            clear he hc hs hux
            go_wp2
            go_roundw
            case rel => exact ⟨1, by omega, by go_num, fun j x y h => by omega, hbw⟩
            case measure => simp [RowKit.intOf]; omega
          | succ m =>
            obtain ⟨ga', e', s', hga, he', hc', hs'⟩ := HV.out m (by omega)
            simp only [Option.some.injEq, Addr.mk.injEq, and_true] at hga
            subst hga
            have c0' := (hbw.cell (lt_of_cell hc')).trans hc'
            have fe := HGF.out e (List.mem_of_getElem? he)
            have fe' := HGF.out e' (List.mem_of_getElem? he')
            have cM := fun W (hW : Below w2.heap.size w2 W) => mayF_any e' e s' s W (hs'.below hW) (hs.below hW) fe'.1 fe.1 (by have := fe'.2.n; omega) (by have := fe.2.n; omega)
            obtain ⟨u', x', hux'⟩ := pieceQ_if e' s'
            rw [hux'] at c0' cM
            rw [hux] at cM
            have HE : Hid (E[m]? = some e' ∧ E[m + 1]? = some e) := ⟨he', he⟩
            obtain ⟨q, hq⟩ : ∃ q, apartB e' e = q := ⟨_, rfl⟩
            have HQ : Hid (apartB e' e = q) := hq
            rw [hq] at cM
            have cM := cM _ hbw
            have hm0 : decide ((0 : Int) < (m : Int) + 1) = true := decide_eq_true (by omega)
            have hm1 : ((m : Int) + 1 - 1) = (m : Int) := by omega
            clear he hc hs hux he' hc' hs' hux' fe fe' hq
            cases q with
            | false =>
              have hcan : Hid (canonB E = false) := by
                show canonB E = false
                cases h : chainB E with
                | true => have := chain_iff.1 h m e' e HE.out.1 HE.out.2; rw [HQ.out] at this; cases this
                | false => unfold canonB; rw [h]; simp
              go_wp2_with fail
              refine cM.mono ?_; rintro r w5 ⟨rfl, hb5⟩
              have b5 := hb2.trans ((hbw.trans (hb5.mono hbw.size)).mono hb2.size)
              clear cM hb5
              go_wp2
              go_ret
              exact ⟨by rw [hcan.out]; rfl, b5⟩
            | true =>
              have HCh2 : Hid (∀ j x y, j + 1 < m + 1 + 1 → E[j]? = some x → E[j + 1]? = some y → apartB x y = true) := fun j x y hj hx hy => by
                by_cases hjm : j = m
                · subst hjm
                  obtain rfl := Option.some.inj (hx.symm.trans HE.out.1)
                  obtain rfl := Option.some.inj (hy.symm.trans HE.out.2)
                  exact HQ.out
                · exact HCh.out j x y (by omega) hx hy
              go_wp2_with fail
              refine cM.mono ?_; rintro r w5 ⟨rfl, hb5⟩
              have b5 := hbw.trans (hb5.mono hbw.size)
              clear cM hb5
              go_wp2
              go_roundw
              case rel => exact ⟨m + 1 + 1, by omega, by go_num, HCh2.out, b5⟩
              case measure => simp [RowKit.intOf]; omega
        · have hltI : ¬ (k : Int) < n := by omega
          have hkn : k = n := by omega
          have HC1 : Hid (chainB E = true) := chain_iff.2 fun j x y hx hy => HCh.out j x y (by
            have := (List.getElem?_eq_some_iff.1 hy).1; rw [HN.out] at this; omega) hx hy
          clear HCh hkn
          have bw := hb2.trans (hbw.mono hb2.size)
          cases n with
          | zero =>
            have hcan : Hid (canonB E = true) := by
              show canonB E = true
              have : E = [] := List.eq_nil_of_length_eq_zero HN.out
              unfold canonB
              rw [HC1.out, decide_eq_true HLZ.out, this]; rfl
            have hz : (((0 : Nat) : Int) == 0) = true := by decide
            go_wp2
            go_ret
            exact ⟨by rw [hcan.out]; rfl, bw⟩
          | succ m =>
            obtain ⟨ga, e, s, rfl, he, hc, hs⟩ := HV.out m (by omega)
            have c0 := (hbw.cell (lt_of_cell hc)).trans hc
            have fe := HGF.out e (List.mem_of_getElem? he)
            have cP := plainR_any e s wr (hs.below hbw) fe.1 (by have := fe.2.n; omega)
            obtain ⟨u, x, hux⟩ := pieceQ_if e s
            rw [hux] at c0 cP
            have hcan : Hid (canonB E = !plainR e) := by
              show canonB E = _
              unfold canonB lastP
              rw [HC1.out, decide_eq_true HLZ.out, List.getLast?_eq_getElem?, HN.out]
              simp only [Nat.add_sub_cancel, he]
              rfl
            obtain ⟨q, hq⟩ : ∃ q, plainR e = q := ⟨_, rfl⟩
            rw [hq] at cP hcan
            have hm0 : (((m : Int) + 1) == 0) = false := by simp; omega
            have hm1 : ((m : Int) + 1 - 1) = (m : Int) := by omega
            clear he hc hs hux fe hq
            go_wp2_with fail
            refine cP.mono ?_; rintro r w5 ⟨rfl, hb5⟩
            have b5 := bw.trans (hb5.mono bw.size)
            clear cP hb5
            go_wp2
            go_ret
            exact ⟨by rw [hcan.out]; rfl, b5⟩
  | succ e =>
    have hcan : Hid (canonB E = false) := by
      show canonB E = false
      unfold canonB
      rw [decide_eq_false (fun h => by have := (hlc.1 h).1; omega)]; rfl
    rw [hb, errOf_succ] at c1
    obtain ⟨i1, hi1⟩ : ∃ i : Int, ((badP E).1 : Int) = i := ⟨_, rfl⟩
    rw [hi1] at c1
    clear hi1 hb c2 hlc
    go_enter Tryz.func25, Tryz.ntmps25
    go_wp2_with fail
    refine c1.mono ?_; rintro r w2 ⟨v', rfl, _, hz, hb2⟩
    obtain rfl := hz (by omega)
    clear c1 hz
    go_wp2
    go_ret
    exact ⟨by rw [hcan.out]; rfl, hb2⟩
end Go.Proofs.YtfllomfjhkgaoaaGreatDoor

/- Deltas unit by unit: what operations are, cell by cell and gap by gap; canonical lists are told apart by it. -/
namespace Go.Proofs.YtfllomfjhkgaoaaGreatDoor
open Go Go.RowKit Go.Lib
set_option linter.unusedVariables false

/-- A unit of a delta: a cell that comes, a cell that stays with a patch, a cell that goes. -/
inductive U6 where
  | ins (c : C5)
  | keep (A : List A2)
  | del
/-- An operation that is well formed but for the upper bound of its count. -/
def Wel (o : Op5) : Prop := (Ins o ∧ (o.k = 1 ∨ o.k = 2)) ∨ (o.k = 3 ∧ o.t = ⟨#[]⟩ ∧ o.v = z0 ∧ 1 ≤ o.c ∧ listE true none o.A = 0) ∨ (o.k = 4 ∧ o.t = ⟨#[]⟩ ∧ o.v = z0 ∧ 1 ≤ o.c ∧ o.A = [])
theorem wel_of {o : Op5} (h : opE o = 0) : Wel o := by
  rcases op_good h with h | ⟨h1, h2, h3⟩ | ⟨h1, h2, h3⟩
  · exact Or.inl h
  · exact Or.inr (Or.inl ⟨h3, emp_iff.1 h1.text, h1.val, h1.lo, h2⟩)
  · exact Or.inr (Or.inr ⟨h3, emp_iff.1 h1.text, h1.val, h1.lo, h2⟩)
theorem Wel.good {o : Op5} (h : Wel o) (hc : o.c ≤ 1099511627776) : opE o = 0 := by
  rcases h with ⟨h1, h2⟩ | ⟨h1, h2, h3, h4, h5⟩ | ⟨h1, h2, h3, h4, h5⟩
  · unfold opE; rw [if_pos h2]; exact h1.zero
  · unfold opE
    rw [if_neg (by omega), if_pos h1, if_neg (by simpa using cnt_iff.2 ⟨emp_iff.2 h2, h3, h4, hc⟩)]
    exact h5
  · unfold opE
    rw [if_neg (by omega), if_neg (by omega), if_pos h1, if_neg (by simpa using h5)]
    exact cnt_iff.2 ⟨emp_iff.2 h2, h3, h4, hc⟩
theorem Wel.kinds {o : Op5} (h : Wel o) : o.k = 1 ∨ o.k = 2 ∨ o.k = 3 ∨ o.k = 4 := by
  rcases h with ⟨_, h⟩ | ⟨h, _⟩ | ⟨h, _⟩ <;> omega
/-- What an operation is, unit by unit. -/
def unitsO (o : Op5) : List U6 :=
  if o.k = 1 ∨ o.k = 2 then (cellsOf o).map .ins else if o.k = 3 then List.replicate o.c.toNat (.keep o.A) else List.replicate o.c.toNat .del
def units : List Op5 → List U6
  | [] => []
  | o :: r => unitsO o ++ units r
theorem units_append : ∀ E F : List Op5, units (E ++ F) = units E ++ units F
  | [], F => rfl
  | o :: r, F => by
    show unitsO o ++ units (r ++ F) = _
    rw [units_append r F, ← List.append_assoc]; rfl
theorem units_one (o : Op5) : units [o] = unitsO o := by show unitsO o ++ [] = _; rw [List.append_nil]

/-- May two units be of one operation? -/
def runB : U6 → U6 → Prop
  | .ins c, .ins d => 0 ≤ c.1 ∧ 0 ≤ d.1 ∧ c.2.2.2 = d.2.2.2
  | .keep A, .keep B => A = B
  | .del, .del => True
  | _, _ => False
instance (u v : U6) : Decidable (runB u v) := by cases u <;> cases v <;> unfold runB <;> infer_instance

theorem mem_cells1 {o : Op5} (hk : o.k = 1) {u : U6} (h : u ∈ (cellsOf o).map U6.ins) : ∃ r : Nat, u = .ins ((r : Int), ⟨#[]⟩, z0, o.A) := by
  obtain ⟨c, hc, rfl⟩ := List.mem_map.1 h
  unfold cellsOf at hc
  rw [if_pos hk, mkC] at hc
  obtain ⟨r, _, rfl⟩ := List.mem_map.1 hc
  exact ⟨r, rfl⟩
theorem cells2 {o : Op5} (hk : o.k = 2) : (cellsOf o).map U6.ins = [.ins (-1, o.t, o.v, o.A)] := by
  unfold cellsOf
  rw [if_neg (by omega)]; rfl
theorem scs_ne {t : ByteArray} (h : t.toList.isEmpty = false) (hb : brk t.data.toList = t.size) : scs t.data.toList ≠ [] := fun e => by
  have h1 := isEmp_size h
  unfold brk at hb
  rw [e] at hb
  simp [encs] at hb
  omega
/-- Every operation has a unit. -/
theorem unitsO_ne {o : Op5} (h : Wel o) : unitsO o ≠ [] := by
  unfold unitsO
  rcases h with ⟨h1, h2⟩ | ⟨h1, h2, h3, h4, h5⟩ | ⟨h1, h2, h3, h4, h5⟩
  · rw [if_pos h2]
    rcases h2 with h2 | h2
    · unfold cellsOf
      rw [if_pos h2, mkC]
      intro e
      rw [List.map_eq_nil_iff, List.map_eq_nil_iff] at e
      exact scs_ne h1.full h1.utf e
    · rw [cells2 h2]; simp
  · rw [if_neg (by omega), if_pos h1]
    intro e
    have := congrArg List.length e
    simp at this
    omega
  · rw [if_neg (by omega), if_neg (by omega)]
    intro e
    have := congrArg List.length e
    simp at this
    omega
/-- What a unit of an operation tells of it. -/
theorem unit_cases {o : Op5} (h : Wel o) {u : U6} (hu : u ∈ unitsO o) : (o.k = 1 ∧ ∃ r : Nat, u = .ins ((r : Int), ⟨#[]⟩, z0, o.A)) ∨ (o.k = 2 ∧ u = .ins (-1, o.t, o.v, o.A)) ∨ (o.k = 3 ∧ u = .keep o.A) ∨ (o.k = 4 ∧ u = .del) := by
  unfold unitsO at hu
  rcases h.kinds with hk | hk | hk | hk
  · rw [if_pos (Or.inl hk)] at hu
    exact Or.inl ⟨hk, mem_cells1 hk hu⟩
  · rw [if_pos (Or.inr hk), cells2 hk] at hu
    exact Or.inr (Or.inl ⟨hk, List.mem_singleton.1 hu⟩)
  · rw [if_neg (by omega), if_pos hk] at hu
    exact Or.inr (Or.inr (Or.inl ⟨hk, List.eq_of_mem_replicate hu⟩))
  · rw [if_neg (by omega), if_neg (by omega)] at hu
    exact Or.inr (Or.inr (Or.inr ⟨hk, List.eq_of_mem_replicate hu⟩))
theorem run_in {o : Op5} (h : Wel o) (hk : o.k ≠ 2) {u v : U6} (hu : u ∈ unitsO o) (hv : v ∈ unitsO o) : runB u v := by
  rcases unit_cases h hu with ⟨h1, r, rfl⟩ | ⟨h1, rfl⟩ | ⟨h1, rfl⟩ | ⟨h1, rfl⟩
  · rcases unit_cases h hv with ⟨h2, r', rfl⟩ | ⟨h2, rfl⟩ | ⟨h2, rfl⟩ | ⟨h2, rfl⟩
    · exact ⟨by simp, by simp, rfl⟩
    all_goals omega
  · exact absurd h1 hk
  · rcases unit_cases h hv with ⟨h2, r', rfl⟩ | ⟨h2, rfl⟩ | ⟨h2, rfl⟩ | ⟨h2, rfl⟩
    any_goals omega
    rfl
  · rcases unit_cases h hv with ⟨h2, r', rfl⟩ | ⟨h2, rfl⟩ | ⟨h2, rfl⟩ | ⟨h2, rfl⟩
    any_goals omega
    trivial
theorem run_apart {x y : Op5} (hx : Wel x) (hy : Wel y) (ha : apartB x y = true) {u v : U6} (hu : u ∈ unitsO x) (hv : v ∈ unitsO y) : ¬ runB u v := by
  unfold apartB at ha
  rcases unit_cases hx hu with ⟨h1, r, rfl⟩ | ⟨h1, rfl⟩ | ⟨h1, rfl⟩ | ⟨h1, rfl⟩ <;> rcases unit_cases hy hv with ⟨h2, r', rfl⟩ | ⟨h2, rfl⟩ | ⟨h2, rfl⟩ | ⟨h2, rfl⟩
  all_goals first | (intro h; cases h; done) | skip
  · rw [if_neg (by omega), if_neg (by omega)] at ha
    rintro ⟨_, _, h⟩
    simp only at h
    simp [h] at ha
  · rintro ⟨_, h, _⟩
    simp at h
  · rintro ⟨h, _, _⟩
    simp at h
  · rintro ⟨h, _, _⟩
    simp at h
  · rw [if_neg (by omega), if_neg (by omega)] at ha
    intro h
    have h : x.A = y.A := h
    simp [h] at ha
  · rw [if_pos h1, h2] at ha
    cases ha
theorem scs_injB {t t' : ByteArray} (h : brk t.data.toList = t.size) (h' : brk t'.data.toList = t'.size) (e : scs t.data.toList = scs t'.data.toList) : t = t' := by
  have e1 := valid_of_brk (l := t.data.toList) (by rw [h, size_toList])
  have e2 := valid_of_brk (l := t'.data.toList) (by rw [h', size_toList])
  apply ByteArray.ext
  apply Array.ext'
  rw [e1, e2, e]
theorem op_ext {x y : Op5} (h1 : x.k = y.k) (h2 : x.t = y.t) (h3 : x.v = y.v) (h4 : x.c = y.c) (h5 : x.A = y.A) : x = y := by
  cases x; cases y; simp only at h1 h2 h3 h4 h5; subst h1 h2 h3 h4 h5; rfl
/-- An operation is told by its units. -/
theorem unitsO_inj {x y : Op5} (hx : Wel x) (hy : Wel y) (h : unitsO x = unitsO y) : x = y := by
  obtain ⟨u, us, hu⟩ := List.exists_cons_of_ne_nil (unitsO_ne hx)
  have m1 : u ∈ unitsO x := by rw [hu]; exact List.mem_cons_self ..
  have m2 : u ∈ unitsO y := by rw [← h]; exact m1
  unfold unitsO at h
  rcases unit_cases hx m1 with ⟨h1, r, rfl⟩ | ⟨h1, rfl⟩ | ⟨h1, rfl⟩ | ⟨h1, rfl⟩ <;> rcases unit_cases hy m2 with ⟨h2, r', e⟩ | ⟨h2, e⟩ | ⟨h2, e⟩ | ⟨h2, e⟩
  any_goals (simp at e; done)
  · rw [if_pos (Or.inl h1), if_pos (Or.inl h2)] at h
    simp only [U6.ins.injEq, Prod.mk.injEq] at e
    obtain ⟨i1, _⟩ := hx.resolve_right (by rintro (h | h) <;> omega)
    obtain ⟨i2, _⟩ := hy.resolve_right (by rintro (h | h) <;> omega)
    unfold cellsOf at h
    rw [if_pos h1, if_pos h2, mkC, mkC, ← e.2.2.2, List.map_map, List.map_map] at h
    have := (List.map_inj_right (fun (a b : Nat) (hab : (U6.ins ((a : Int), (⟨#[]⟩ : ByteArray), z0, x.A)) = U6.ins ((b : Int), ⟨#[]⟩, z0, x.A)) => by
      simp only [U6.ins.injEq, Prod.mk.injEq] at hab
      exact Int.ofNat_inj.1 hab.1)).1 h
    refine op_ext (by omega) (scs_injB i1.utf i2.utf this) ?_ (by rw [i1.count, i2.count]) e.2.2.2
    rw [(i1.kind.resolve_right (by omega)).2, (i2.kind.resolve_right (by omega)).2]
  · simp only [U6.ins.injEq, Prod.mk.injEq] at e
    obtain ⟨i1, _⟩ := hx.resolve_right (by rintro (h | h) <;> omega)
    obtain ⟨i2, _⟩ := hy.resolve_right (by rintro (h | h) <;> omega)
    exact op_ext (by omega) e.2.1 e.2.2.1 (by rw [i1.count, i2.count]) e.2.2.2
  · rw [if_neg (by omega), if_pos h1, if_neg (by omega), if_pos h2] at h
    have hl := congrArg List.length h
    simp only [List.length_replicate] at hl
    obtain ⟨_, a1, a2, a3, _⟩ := (hx.resolve_left (fun h => by omega)).resolve_right (fun h => by omega)
    obtain ⟨_, b1, b2, b3, _⟩ := (hy.resolve_left (fun h => by omega)).resolve_right (fun h => by omega)
    simp only [U6.keep.injEq] at e
    exact op_ext (by omega) (by rw [a1, b1]) (by rw [a2, b2]) (by omega) e
  · rw [if_neg (by omega), if_neg (by omega), if_neg (by omega), if_neg (by omega)] at h
    have hl := congrArg List.length h
    simp only [List.length_replicate] at hl
    obtain ⟨_, a1, a2, a3, a4⟩ := (hx.resolve_left (fun h => by omega)).resolve_left (fun h => by omega)
    obtain ⟨_, b1, b2, b3, b4⟩ := (hy.resolve_left (fun h => by omega)).resolve_left (fun h => by omega)
    exact op_ext (by omega) (by rw [a1, b1]) (by rw [a2, b2]) (by omega) (by rw [a4, b4])
theorem takeWhile_run {p : U6 → Bool} : ∀ {a b : List U6}, (∀ v ∈ a, p v = true) → (∀ v, b.head? = some v → p v = false) → (a ++ b).takeWhile p = a
  | [], [], _, _ => rfl
  | [], v :: b, _, h => by rw [List.nil_append, List.takeWhile_cons, h v rfl]; rfl
  | u :: a, b, h, hb => by
    rw [List.cons_append, List.takeWhile_cons, h u (List.mem_cons_self ..)]
    simp only [if_true]
    rw [takeWhile_run (fun v hv => h v (List.mem_cons_of_mem _ hv)) hb]
theorem head_units {y : Op5} {r : List Op5} (hy : Wel y) {v : U6} (h : (units (y :: r)).head? = some v) : v ∈ unitsO y := by
  obtain ⟨u, us, hu⟩ := List.exists_cons_of_ne_nil (unitsO_ne hy)
  have : (units (y :: r)).head? = some u := by show (unitsO y ++ units r).head? = _; rw [hu]; rfl
  rw [this] at h
  obtain rfl := Option.some.inj h
  rw [hu]; exact List.mem_cons_self ..
theorem chain_tail {x : Op5} {r : List Op5} (h : chainB (x :: r) = true) : chainB r = true := by
  cases r with
  | nil => rfl
  | cons y r => rw [chainB, Bool.and_eq_true] at h; exact h.2
/-- **Lists in which no two neighbours might be one are told by their units.** -/
theorem units_inj : ∀ {E F : List Op5}, (∀ o ∈ E, Wel o) → (∀ o ∈ F, Wel o) → chainB E = true → chainB F = true → units E = units F → E = F
  | [], [], _, _, _, _, _ => rfl
  | [], y :: s, _, hF, _, _, h => by
    exfalso
    have := unitsO_ne (hF y (List.mem_cons_self ..))
    have h : [] = unitsO y ++ units s := h
    exact this (List.append_eq_nil_iff.1 h.symm).1
  | x :: r, [], hE, _, _, _, h => by
    exfalso
    have := unitsO_ne (hE x (List.mem_cons_self ..))
    have h : unitsO x ++ units r = [] := h
    exact this (List.append_eq_nil_iff.1 h).1
  | x :: r, y :: s, hE, hF, cE, cF, h => by
    have wx := hE x (List.mem_cons_self ..)
    have wy := hF y (List.mem_cons_self ..)
    have h' : unitsO x ++ units r = unitsO y ++ units s := h
    have run : ∀ {z : Op5} {q : List Op5} (hz : Wel z) (hq : ∀ o ∈ q, Wel o) (hc : chainB (z :: q) = true) (hk : z.k ≠ 2) (u : U6) (hu : u ∈ unitsO z), (unitsO z ++ units q).takeWhile (fun v => decide (runB u v)) = unitsO z := fun {z q} hz hq hc hk u hu => by
      refine takeWhile_run (fun v hv => decide_eq_true (run_in hz hk hu hv)) (fun v hv => decide_eq_false ?_)
      cases q with
      | nil => cases hv
      | cons w q =>
        have ww := hq w (List.mem_cons_self ..)
        rw [chainB, Bool.and_eq_true] at hc
        exact run_apart hz ww hc.1 hu (head_units ww hv)
    obtain ⟨u, us, hu⟩ := List.exists_cons_of_ne_nil (unitsO_ne wx)
    obtain ⟨u', us', hu'⟩ := List.exists_cons_of_ne_nil (unitsO_ne wy)
    obtain rfl : u = u' := by rw [hu, hu'] at h'; exact (List.cons.inj h').1
    have m1 : u ∈ unitsO x := by rw [hu]; exact List.mem_cons_self ..
    have m2 : u ∈ unitsO y := by rw [hu']; exact List.mem_cons_self ..
    have e : unitsO x = unitsO y := by
      by_cases hx2 : x.k = 2
      · by_cases hy2 : y.k = 2
        · rcases unit_cases wx m1 with ⟨h1, _⟩ | ⟨h1, e1⟩ | ⟨h1, _⟩ | ⟨h1, _⟩
          any_goals omega
          rcases unit_cases wy m2 with ⟨h2, _⟩ | ⟨h2, e2⟩ | ⟨h2, _⟩ | ⟨h2, _⟩
          any_goals omega
          unfold unitsO
          rw [if_pos (Or.inr hx2), if_pos (Or.inr hy2), cells2 hx2, cells2 hy2, ← e1, ← e2]
        · exfalso
          have := run_in wy hy2 m2 m2
          rcases unit_cases wx m1 with ⟨h1, _⟩ | ⟨h1, e1⟩ | ⟨h1, _⟩ | ⟨h1, _⟩
          any_goals omega
          rw [e1] at this
          have h0 : (0 : Int) ≤ -1 := this.1
          omega
      · by_cases hy2 : y.k = 2
        · exfalso
          have := run_in wx hx2 m1 m1
          rcases unit_cases wy m2 with ⟨h1, _⟩ | ⟨h1, e1⟩ | ⟨h1, _⟩ | ⟨h1, _⟩
          any_goals omega
          rw [e1] at this
          have h0 : (0 : Int) ≤ -1 := this.1
          omega
        · rw [← run wx (fun o ho => hE o (List.mem_cons_of_mem _ ho)) cE hx2 u m1, h', run wy (fun o ho => hF o (List.mem_cons_of_mem _ ho)) cF hy2 u m2]
    rw [unitsO_inj wx wy e]
    rw [e] at h'
    rw [units_inj (fun o ho => hE o (List.mem_cons_of_mem _ ho)) (fun o ho => hF o (List.mem_cons_of_mem _ ho)) (chain_tail cE) (chain_tail cF) (List.append_cancel_left h')]
end Go.Proofs.YtfllomfjhkgaoaaGreatDoor

/- The canonical list of operations: its units are theirs, each gap's inserts ahead of its deletes. -/
namespace Go.Proofs.YtfllomfjhkgaoaaGreatDoor
open Go Go.RowKit Go.Lib
set_option linter.unusedVariables false

/-- Units, each gap's inserts ahead of its deletes (I, d: what the gap at hand has so far). -/
def nrm (I : List U6) (d : Nat) : List U6 → List U6
  | [] => I ++ List.replicate d .del
  | .keep A :: r => I ++ (List.replicate d .del ++ .keep A :: nrm [] 0 r)
  | .del :: r => nrm I (d + 1) r
  | .ins c :: r => nrm (I ++ [.ins c]) d r
theorem nrm_ins (l : List C5) : ∀ (I : List U6) (d : Nat) (r : List U6), nrm I d (l.map .ins ++ r) = nrm (I ++ l.map .ins) d r := by
  induction l with
  | nil => intro I d r; simp
  | cons c l ih =>
    intro I d r
    show nrm (I ++ [.ins c]) d (l.map .ins ++ r) = _
    rw [ih]; simp
theorem nrm_del (n : Nat) : ∀ (I : List U6) (d : Nat) (r : List U6), nrm I d (List.replicate n .del ++ r) = nrm I (d + n) r := by
  induction n with
  | zero => intro I d r; simp
  | succ n ih =>
    intro I d r
    rw [List.replicate_succ]
    show nrm I (d + 1) (List.replicate n .del ++ r) = _
    rw [ih, show d + 1 + n = d + (n + 1) by omega]
theorem nrm_keeps (A : List A2) : ∀ (n : Nat) (r : List U6), nrm [] 0 (List.replicate n (.keep A) ++ r) = List.replicate n (.keep A) ++ nrm [] 0 r
  | 0, r => by simp
  | n + 1, r => by
    rw [List.replicate_succ]
    show [] ++ (List.replicate 0 U6.del ++ .keep A :: nrm [] 0 (List.replicate n (.keep A) ++ r)) = _
    rw [nrm_keeps A n r]; rfl
theorem nrm_keep (A : List A2) (n : Nat) (hn : 1 ≤ n) (I : List U6) (d : Nat) (r : List U6) :
    nrm I d (List.replicate n (.keep A) ++ r) = I ++ (List.replicate d .del ++ (List.replicate n (.keep A) ++ nrm [] 0 r)) := by
  obtain ⟨m, rfl⟩ : ∃ m, n = m + 1 := ⟨n - 1, by omega⟩
  rw [List.replicate_succ]
  show I ++ (List.replicate d U6.del ++ .keep A :: nrm [] 0 (List.replicate m (.keep A) ++ r)) = _
  rw [nrm_keeps]; rfl
theorem nrm_pre (J I : List U6) : ∀ (r : List U6) (d : Nat), nrm (J ++ I) d r = J ++ nrm I d r
  | [], d => by show (J ++ I) ++ _ = _; rw [List.append_assoc]; rfl
  | .keep A :: r, d => by show (J ++ I) ++ _ = _; rw [List.append_assoc]; rfl
  | .del :: r, d => nrm_pre J I r (d + 1)
  | .ins c :: r, d => by
    show nrm (J ++ I ++ [.ins c]) d r = J ++ nrm (I ++ [.ins c]) d r
    rw [List.append_assoc]
    exact nrm_pre J (I ++ [.ins c]) r d
theorem unitsO_1 {o : Op5} (h : o.k = 1 ∨ o.k = 2) : unitsO o = (cellsOf o).map .ins := by unfold unitsO; rw [if_pos h]
theorem unitsO_3 {o : Op5} (h : o.k = 3) : unitsO o = List.replicate o.c.toNat (.keep o.A) := by unfold unitsO; rw [if_neg (by omega), if_pos h]
theorem unitsO_4 {o : Op5} (h : o.k = 4) : unitsO o = List.replicate o.c.toNat .del := by unfold unitsO; rw [if_neg (by omega), if_neg (by omega)]
theorem Wel.count {o : Op5} (h : Wel o) (hk : o.k = 3 ∨ o.k = 4) : 1 ≤ o.c := by
  rcases h with ⟨_, h⟩ | ⟨_, _, _, h, _⟩ | ⟨_, _, _, h, _⟩
  · omega
  · exact h
  · exact h

/-- Two operations as one. -/
def jnO (x o : Op5) : Op5 := ⟨x.k, x.t ++ o.t, x.v, x.c + o.c, x.A⟩
/-- An operation put behind others, joined with the last one where that may be. -/
def pushL (out : List Op5) (o : Op5) : List Op5 :=
  match out.getLast? with
  | none => [o]
  | some x => if x.k ≠ o.k ∨ o.k = 2 ∨ x.A ≠ o.A then out ++ [o] else out.dropLast ++ [jnO x o]
theorem push_nil (o : Op5) : pushL [] o = [o] := rfl
theorem push_apart {F : List Op5} {x o : Op5} (h : x.k ≠ o.k ∨ o.k = 2 ∨ x.A ≠ o.A) : pushL (F ++ [x]) o = F ++ [x] ++ [o] := by
  unfold pushL
  rw [List.getLast?_concat]
  exact if_pos h
theorem push_join {F : List Op5} {x o : Op5} (h : ¬ (x.k ≠ o.k ∨ o.k = 2 ∨ x.A ≠ o.A)) : pushL (F ++ [x]) o = F ++ [jnO x o] := by
  unfold pushL
  rw [List.getLast?_concat, List.dropLast_concat]
  exact if_neg h
theorem join_wel {x o : Op5} (hx : Wel x) (ho : Wel o) (hk : x.k = o.k) (h2 : o.k ≠ 2) (hA : x.A = o.A) : Wel (jnO x o) ∧ unitsO (jnO x o) = unitsO x ++ unitsO o := by
  have e0 : (⟨#[]⟩ : ByteArray) ++ ⟨#[]⟩ = ⟨#[]⟩ := rfl
  rcases hx with ⟨i1, k1⟩ | ⟨k1, a1, a2, a3, a4⟩ | ⟨k1, a1, a2, a3, a4⟩
  · have k1 : x.k = 1 := by omega
    obtain ⟨i2, _⟩ := ho.resolve_right (by rintro (h | h) <;> omega)
    have hs : (x.t ++ o.t).size = x.t.size + o.t.size := ByteArray.size_append
    have hc := scs_cat (a := x.t.data.toList) (b := o.t.data.toList) (by rw [i1.utf, size_toList]) (by rw [i2.utf, size_toList])
    refine ⟨Or.inl ⟨⟨Or.inl ⟨k1, (i1.kind.resolve_right (by omega)).2⟩, size_isEmp ?_, ?_, ?_, i1.val, i1.set⟩, Or.inl k1⟩, ?_⟩
    · have := isEmp_size i1.full
      show 0 < (x.t ++ o.t).size
      omega
    · show x.c + o.c = 0
      rw [i1.count, i2.count]; rfl
    · show brk (x.t ++ o.t).data.toList = (x.t ++ o.t).size
      rw [cat_list, hc.2, List.length_append, size_toList, size_toList, hs]
    · rw [unitsO_1 (show (jnO x o).k = 1 ∨ (jnO x o).k = 2 from Or.inl k1), unitsO_1 (Or.inl k1), unitsO_1 (Or.inl (by omega))]
      unfold cellsOf
      rw [if_pos (show (jnO x o).k = 1 from k1), if_pos k1, if_pos (show o.k = 1 by omega), ← hA]
      show (mkC x.A (scs (x.t ++ o.t).data.toList)).map U6.ins = _
      rw [cat_list, hc.1]
      simp [mkC]
  · obtain ⟨_, b1, b2, b3, b4⟩ := (ho.resolve_left (fun h => by omega)).resolve_right (fun h => by omega)
    refine ⟨Or.inr (Or.inl ⟨k1, by show x.t ++ o.t = _; rw [a1, b1, e0], a2, by show 1 ≤ x.c + o.c; omega, a4⟩), ?_⟩
    rw [unitsO_3 (show (jnO x o).k = 3 from k1), unitsO_3 k1, unitsO_3 (by omega), ← hA]
    show List.replicate (x.c + o.c).toNat (U6.keep x.A) = _
    rw [show (x.c + o.c).toNat = x.c.toNat + o.c.toNat by omega, List.replicate_append_replicate.symm]
  · obtain ⟨_, b1, b2, b3, b4⟩ := (ho.resolve_left (fun h => by omega)).resolve_left (fun h => by omega)
    refine ⟨Or.inr (Or.inr ⟨k1, by show x.t ++ o.t = _; rw [a1, b1, e0], a2, by show 1 ≤ x.c + o.c; omega, a4⟩), ?_⟩
    rw [unitsO_4 (show (jnO x o).k = 4 from k1), unitsO_4 k1, unitsO_4 (by omega)]
    show List.replicate (x.c + o.c).toNat U6.del = _
    rw [show (x.c + o.c).toNat = x.c.toNat + o.c.toNat by omega, List.replicate_append_replicate.symm]
theorem chain_snoc : ∀ (E : List Op5) (x o : Op5), chainB (E ++ [x] ++ [o]) = (chainB (E ++ [x]) && apartB x o)
  | [], x, o => by simp [chainB]
  | [y], x, o => by simp [chainB]
  | y :: z :: r, x, o => by
    have := chain_snoc (z :: r) x o
    simp only [List.cons_append, chainB] at this ⊢
    rw [this, Bool.and_assoc]
theorem chain_last : ∀ (E : List Op5) {x y : Op5}, x.k = y.k → x.A = y.A → chainB (E ++ [x]) = chainB (E ++ [y])
  | [], x, y, _, _ => rfl
  | [z], x, y, hk, hA => by simp [chainB, apartB, hk, hA]
  | z :: u :: r, x, y, hk, hA => by
    have := chain_last (u :: r) hk hA
    simp only [List.cons_append, chainB] at this ⊢
    rw [this]
/-- A list that no two neighbours of which might be one, well formed; the kind of its last one. -/
structure Chn (E : List Op5) (P : Int → Prop) : Prop where
  wel : ∀ o ∈ E, Wel o
  chain : chainB E = true
  last : ∀ F x, E = F ++ [x] → P x.k
theorem wel_snoc {F : List Op5} {x : Op5} : (∀ o ∈ F ++ [x], Wel o) ↔ (∀ o ∈ F, Wel o) ∧ Wel x := by
  constructor
  · intro h; exact ⟨fun o ho => h o (List.mem_append_left _ ho), h x (List.mem_append_right _ (List.mem_singleton.2 rfl))⟩
  · rintro ⟨h1, h2⟩ o ho
    rcases List.mem_append.1 ho with h | h
    · exact h1 o h
    · rw [List.mem_singleton.1 h]; exact h2
theorem last_snoc {P : Int → Prop} {G : List Op5} {z : Op5} (h : P z.k) : ∀ F x, G ++ [z] = F ++ [x] → P x.k := fun F x e => by
  have := List.append_inj_right' e rfl
  rw [← List.cons.inj this |>.1]; exact h
theorem push_chn {out : List Op5} {o : Op5} {P : Int → Prop} (h : Chn out P) (ho : Wel o) (hP : ∀ k, P k → k = 4 → o.k = 3 ∨ o.k = 4) :
    Chn (pushL out o) (fun k => k = o.k) ∧ units (pushL out o) = units out ++ unitsO o := by
  rcases List.eq_nil_or_concat out with rfl | ⟨F, x, rfl⟩
  · rw [push_nil]
    exact ⟨⟨fun y hy => by rw [List.mem_singleton.1 hy]; exact ho, rfl, last_snoc (P := fun k => k = o.k) (G := []) (z := o) rfl⟩, by rw [units_one]; rfl⟩
  · rw [List.concat_eq_append] at h ⊢
    obtain ⟨w1, w2⟩ := wel_snoc.1 h.wel
    have hl := h.last F x rfl
    by_cases hj : x.k ≠ o.k ∨ o.k = 2 ∨ x.A ≠ o.A
    · rw [push_apart hj]
      refine ⟨⟨wel_snoc.2 ⟨h.wel, ho⟩, ?_, last_snoc (P := fun k => k = o.k) (z := o) rfl⟩, by rw [units_append (F ++ [x]), units_one]⟩
      rw [chain_snoc, h.chain]
      unfold apartB
      by_cases h4 : x.k = 4
      · rw [if_pos h4]
        rcases hP _ hl h4 with h3 | h3
        · simp [h3]
        · exfalso
          rcases hj with hj | hj | hj
          · omega
          · omega
          · obtain ⟨_, _, _, _, a⟩ := (w2.resolve_left (fun h => by omega)).resolve_left (fun h => by omega)
            obtain ⟨_, _, _, _, b⟩ := (ho.resolve_left (fun h => by omega)).resolve_left (fun h => by omega)
            exact hj (by rw [a, b])
      · rw [if_neg h4]
        by_cases h5 : x.k ≠ o.k ∨ x.k = 2
        · rw [if_pos h5]; rfl
        · rw [if_neg h5]
          have : x.A ≠ o.A := by
            rcases hj with hj | hj | hj
            · exact absurd (Or.inl hj) h5
            · exact absurd (Or.inr (by omega)) h5
            · exact hj
          simp [this]
    · rw [push_join hj]
      have hk : x.k = o.k := Decidable.byContradiction fun e => hj (Or.inl e)
      have h2 : o.k ≠ 2 := fun e => hj (Or.inr (Or.inl e))
      have hA : x.A = o.A := Decidable.byContradiction fun e => hj (Or.inr (Or.inr e))
      obtain ⟨j1, j2⟩ := join_wel w2 ho hk h2 hA
      refine ⟨⟨wel_snoc.2 ⟨w1, j1⟩, ?_, last_snoc (P := fun k => k = o.k) (z := jnO x o) (show (jnO x o).k = o.k from hk)⟩, ?_⟩
      · rw [chain_last F (x := jnO x o) (y := x) rfl rfl]; exact h.chain
      · rw [units_append, units_one, j2, units_append, units_one, List.append_assoc]

/-- A delete. -/
def delO (n : Int) : Op5 := ⟨4, ⟨#[]⟩, z0, n, []⟩
theorem delO_wel {n : Int} (h : 1 ≤ n) : Wel (delO n) := Or.inr (Or.inr ⟨rfl, rfl, rfl, h, rfl⟩)
/-- What a gap has, put behind. -/
def flushL (out gap : List Op5) (g : Int) : List Op5 := if 0 < g then pushL (gap.foldl pushL out) (delO g) else gap.foldl pushL out
/-- One operation gathered: what is whole, the gap's inserts, how many cells go there. -/
def stepC (s : List Op5 × List Op5 × Int) (o : Op5) : List Op5 × List Op5 × Int :=
  if o.k = 1 ∨ o.k = 2 then (s.1, s.2.1 ++ [o], s.2.2) else if o.k = 4 then (s.1, s.2.1, s.2.2 + o.c) else (pushL (flushL s.1 s.2.1 s.2.2) o, [], 0)
def runC (E : List Op5) : List Op5 × List Op5 × Int := E.foldl stepC ([], [], 0)
/-- Without a plain retain at the end. -/
def trimL (out : List Op5) : List Op5 := match out.getLast? with | some o => if plainR o then out.dropLast else out | none => out
/-- The canonical list of operations. -/
def canonL (E : List Op5) : List Op5 := trimL (flushL (runC E).1 (runC E).2.1 (runC E).2.2)
theorem gap_chn : ∀ {gap out : List Op5}, Chn out (fun k => k ≠ 4) → (∀ o ∈ gap, Wel o ∧ (o.k = 1 ∨ o.k = 2)) →
    Chn (gap.foldl pushL out) (fun k => k ≠ 4) ∧ units (gap.foldl pushL out) = units out ++ units gap
  | [], out, h, _ => ⟨h, by show _ = _ ++ []; rw [List.append_nil]; rfl⟩
  | o :: r, out, h, hg => by
    obtain ⟨ho, hk⟩ := hg o (List.mem_cons_self ..)
    obtain ⟨p1, p2⟩ := push_chn h ho (fun k h4 e => absurd e h4)
    have p1' : Chn (pushL out o) (fun k => k ≠ 4) := ⟨p1.wel, p1.chain, fun F x e => by have := p1.last F x e; omega⟩
    obtain ⟨q1, q2⟩ := gap_chn p1' (fun x hx => hg x (List.mem_cons_of_mem _ hx))
    refine ⟨q1, ?_⟩
    show units (r.foldl pushL (pushL out o)) = _
    rw [q2, p2, List.append_assoc]; rfl
theorem flush_chn {out gap : List Op5} {g : Int} (h : Chn out (fun k => k = 3)) (hg : ∀ o ∈ gap, Wel o ∧ (o.k = 1 ∨ o.k = 2)) :
    Chn (flushL out gap g) (fun _ => True) ∧ units (flushL out gap g) = units out ++ (units gap ++ List.replicate g.toNat .del) := by
  obtain ⟨p1, p2⟩ := gap_chn (⟨h.wel, h.chain, fun F x e => by have := h.last F x e; omega⟩ : Chn out (fun k => k ≠ 4)) hg
  unfold flushL
  split
  · rename_i h0
    obtain ⟨q1, q2⟩ := push_chn p1 (delO_wel h0) (fun k h4 e => absurd e h4)
    refine ⟨⟨q1.wel, q1.chain, fun _ _ _ => trivial⟩, ?_⟩
    rw [q2, p2, List.append_assoc, unitsO_4 (show (delO g).k = 4 from rfl)]; rfl
  · rename_i h0
    refine ⟨⟨p1.wel, p1.chain, fun _ _ _ => trivial⟩, ?_⟩
    rw [p2, show g.toNat = 0 by omega]
    simp
/-- What is so between two operations. -/
structure Run (E : List Op5) (s : List Op5 × List Op5 × Int) : Prop where
  out : Chn s.1 (fun k => k = 3)
  gap : ∀ o ∈ s.2.1, Wel o ∧ (o.k = 1 ∨ o.k = 2)
  gone : 0 ≤ s.2.2
  same : ∀ r, nrm [] 0 (units E ++ r) = units s.1 ++ nrm (units s.2.1) s.2.2.toNat r
theorem run_step {E : List Op5} {s : List Op5 × List Op5 × Int} {o : Op5} (h : Run E s) (ho : Wel o) : Run (E ++ [o]) (stepC s o) := by
  have hs : ∀ r, nrm [] 0 (units (E ++ [o]) ++ r) = units s.1 ++ nrm (units s.2.1) s.2.2.toNat (unitsO o ++ r) := fun r => by
    rw [units_append, units_one, List.append_assoc, h.same]
  unfold stepC
  rcases ho.kinds with hk | hk | hk | hk
  · rw [if_pos (Or.inl hk)]
    refine ⟨h.out, fun x hx => ?_, h.gone, fun r => ?_⟩
    · rcases List.mem_append.1 hx with hx | hx
      · exact h.gap x hx
      · rw [List.mem_singleton.1 hx]; exact ⟨ho, Or.inl hk⟩
    · rw [hs, unitsO_1 (Or.inl hk), nrm_ins, units_append, units_one, unitsO_1 (Or.inl hk)]
  · rw [if_pos (Or.inr hk)]
    refine ⟨h.out, fun x hx => ?_, h.gone, fun r => ?_⟩
    · rcases List.mem_append.1 hx with hx | hx
      · exact h.gap x hx
      · rw [List.mem_singleton.1 hx]; exact ⟨ho, Or.inr hk⟩
    · rw [hs, unitsO_1 (Or.inr hk), nrm_ins, units_append, units_one, unitsO_1 (Or.inr hk)]
  · rw [if_neg (by omega), if_neg (by omega)]
    obtain ⟨f1, f2⟩ := flush_chn (g := s.2.2) h.out h.gap
    obtain ⟨p1, p2⟩ := push_chn f1 ho (fun k _ _ => Or.inl hk)
    refine ⟨⟨p1.wel, p1.chain, fun F x e => by have := p1.last F x e; omega⟩, fun x hx => (by cases hx), Int.le_refl 0, fun r => ?_⟩
    have hc := ho.count (Or.inl hk)
    rw [hs, unitsO_3 hk, nrm_keep _ _ (by omega)]
    show _ = units (pushL _ o) ++ nrm [] 0 r
    rw [p2, f2, unitsO_3 hk]
    simp only [List.append_assoc]
  · rw [if_neg (by omega), if_pos hk]
    have hc := ho.count (Or.inr hk)
    refine ⟨h.out, h.gap, ?_, fun r => ?_⟩
    · have := h.gone
      show 0 ≤ s.2.2 + o.c
      omega
    · have := h.gone
      rw [hs, unitsO_4 hk, nrm_del]
      show _ = units s.1 ++ nrm (units s.2.1) (s.2.2 + o.c).toNat r
      rw [show (s.2.2 + o.c).toNat = s.2.2.toNat + o.c.toNat by omega]
theorem run_all : ∀ (F E : List Op5) (s : List Op5 × List Op5 × Int), Run E s → (∀ o ∈ F, Wel o) → Run (E ++ F) (F.foldl stepC s)
  | [], E, s, h, _ => by rw [List.append_nil]; exact h
  | o :: r, E, s, h, hF => by
    have := run_all r (E ++ [o]) (stepC s o) (run_step h (hF o (List.mem_cons_self ..))) (fun x hx => hF x (List.mem_cons_of_mem _ hx))
    rw [List.append_assoc] at this
    exact this
theorem run_of {E : List Op5} (h : ∀ o ∈ E, Wel o) : Run E (runC E) := by
  have := run_all E [] ([], [], 0) ⟨⟨fun o ho => (by cases ho), rfl, fun F x e => (by simp at e)⟩, fun o ho => (by cases ho), Int.le_refl 0, fun r => rfl⟩ h
  rw [List.nil_append] at this
  exact this

/-- Is a unit kept as it is? -/
def plainU : U6 → Bool
  | .keep A => A.isEmpty
  | _ => false
/-- Units without those at the end that are kept as they are. -/
def stripU (U : List U6) : List U6 := (U.reverse.dropWhile plainU).reverse
theorem strip_end {U : List U6} {u : U6} (h : plainU u = false) : stripU (U ++ [u]) = U ++ [u] := by
  unfold stripU
  rw [List.reverse_append]
  show ((u :: U.reverse).dropWhile plainU).reverse = _
  rw [List.dropWhile_cons, h]
  simp
theorem strip_plain {u : U6} (h : plainU u = true) : ∀ (n : Nat) (U : List U6), stripU (U ++ List.replicate n u) = stripU U
  | 0, U => by simp
  | n + 1, U => by
    rw [List.replicate_succ', ← List.append_assoc]
    unfold stripU
    rw [List.reverse_append]
    show ((u :: (U ++ List.replicate n u).reverse).dropWhile plainU).reverse = _
    rw [List.dropWhile_cons, h]
    exact strip_plain h n U
theorem units_last {x : Op5} (h : Wel x) (hp : plainR x = false) : ∃ us u, unitsO x = us ++ [u] ∧ plainU u = false := by
  rcases List.eq_nil_or_concat (unitsO x) with he | ⟨us, u, he⟩
  · exact absurd he (unitsO_ne h)
  · rw [List.concat_eq_append] at he
    refine ⟨us, u, he, ?_⟩
    have hu : u ∈ unitsO x := by rw [he]; simp
    rcases unit_cases h hu with ⟨h1, r, rfl⟩ | ⟨h1, rfl⟩ | ⟨h1, rfl⟩ | ⟨h1, rfl⟩
    · rfl
    · rfl
    · unfold plainR at hp
      rw [h1] at hp
      simpa [plainU] using hp
    · rfl
theorem strip_id {F : List Op5} {x : Op5} (h : Wel x) (hp : plainR x = false) : stripU (units (F ++ [x])) = units (F ++ [x]) := by
  obtain ⟨us, u, h1, h2⟩ := units_last h hp
  rw [units_append, units_one, h1, ← List.append_assoc]
  exact strip_end h2
theorem lastP_snoc (F : List Op5) (x : Op5) : lastP (F ++ [x]) = !plainR x := by unfold lastP; rw [List.getLast?_concat]
theorem strip_can {E : List Op5} (hw : ∀ o ∈ E, Wel o) (hl : lastP E = true) : stripU (units E) = units E := by
  rcases List.eq_nil_or_concat E with rfl | ⟨F, x, rfl⟩
  · rfl
  · rw [List.concat_eq_append] at *
    rw [lastP_snoc] at hl
    exact strip_id (wel_snoc.1 hw).2 (by simpa using hl)
theorem chain_front {F : List Op5} {x : Op5} (h : chainB (F ++ [x]) = true) : chainB F = true := by
  rcases List.eq_nil_or_concat F with rfl | ⟨G, y, rfl⟩
  · rfl
  · rw [List.concat_eq_append] at *
    rw [chain_snoc, Bool.and_eq_true] at h
    exact h.1
theorem trim_chn {E : List Op5} {P : Int → Prop} (h : Chn E P) : (∀ o ∈ trimL E, Wel o) ∧ chainB (trimL E) = true ∧ lastP (trimL E) = true ∧ units (trimL E) = stripU (units E) := by
  rcases List.eq_nil_or_concat E with rfl | ⟨F, x, rfl⟩
  · exact ⟨h.wel, h.chain, rfl, rfl⟩
  · rw [List.concat_eq_append] at *
    obtain ⟨w1, w2⟩ := wel_snoc.1 h.wel
    unfold trimL
    rw [List.getLast?_concat]
    simp only [List.dropLast_concat]
    cases hp : plainR x with
    | false =>
      simp only [Bool.false_eq_true, if_false]
      exact ⟨h.wel, h.chain, by rw [lastP_snoc, hp]; rfl, (strip_id w2 hp).symm⟩
    | true =>
      simp only [if_true]
      have hx : x.k = 3 ∧ x.A = [] := by
        unfold plainR at hp
        simpa using hp
      have hl : lastP F = true := by
        rcases List.eq_nil_or_concat F with rfl | ⟨G, y, rfl⟩
        · rfl
        · rw [List.concat_eq_append] at *
          have := h.chain
          rw [chain_snoc, Bool.and_eq_true] at this
          have ha := this.2
          rw [lastP_snoc]
          cases hq : plainR y with
          | false => rfl
          | true =>
            exfalso
            have hy : y.k = 3 ∧ y.A = [] := by unfold plainR at hq; simpa using hq
            unfold apartB at ha
            rw [if_neg (by omega), if_neg (by omega), hy.2, hx.2] at ha
            simp at ha
      refine ⟨w1, chain_front h.chain, hl, ?_⟩
      rw [units_append, units_one, unitsO_3 hx.1, hx.2, strip_plain rfl]
      exact (strip_can w1 hl).symm
/-- **What the canonical list is: its neighbours are apart, no plain retain ends it, and its units are those of the operations, put in order.** -/
theorem canon_spec {E : List Op5} (h : ∀ o ∈ E, Wel o) : (∀ o ∈ canonL E, Wel o) ∧ chainB (canonL E) = true ∧ lastP (canonL E) = true ∧ units (canonL E) = stripU (nrm [] 0 (units E)) := by
  have r := run_of h
  obtain ⟨f1, f2⟩ := flush_chn (g := (runC E).2.2) r.out r.gap
  obtain ⟨t1, t2, t3, t4⟩ := trim_chn f1
  refine ⟨t1, t2, t3, ?_⟩
  have e := r.same []
  rw [List.append_nil] at e
  show units (trimL _) = _
  rw [t4, f2, e]; rfl
theorem canon_unique {E F : List Op5} (h : ∀ o ∈ E, Wel o) (hF : ∀ o ∈ F, Wel o) (hc : chainB F = true) (e : units F = stripU (nrm [] 0 (units E))) : canonL E = F := by
  obtain ⟨t1, t2, t3, t4⟩ := canon_spec h
  exact units_inj t1 hF t2 hc (by rw [t4, e])
theorem nrm_chain : ∀ {F : List Op5} (I : List U6), (∀ o ∈ F, Wel o) → chainB F = true → nrm I 0 (units F) = I ++ units F
  | [], I, _, _ => by show I ++ [] = _; rfl
  | o :: r, I, hF, hc => by
    have ho := hF o (List.mem_cons_self ..)
    have ih := fun J => nrm_chain (F := r) J (fun x hx => hF x (List.mem_cons_of_mem _ hx)) (chain_tail hc)
    show nrm I 0 (unitsO o ++ units r) = I ++ (unitsO o ++ units r)
    rcases ho.kinds with hk | hk | hk | hk
    · rw [unitsO_1 (Or.inl hk), nrm_ins, ih, List.append_assoc]
    · rw [unitsO_1 (Or.inr hk), nrm_ins, ih, List.append_assoc]
    · have := ho.count (Or.inl hk)
      rw [unitsO_3 hk, nrm_keep _ _ (by omega), ih]
      simp
    · rw [unitsO_4 hk, nrm_del]
      cases r with
      | nil => show I ++ List.replicate (0 + o.c.toNat) U6.del = I ++ (_ ++ []); rw [Nat.zero_add, List.append_nil]
      | cons y s =>
        have hy := hF y (by simp)
        rw [chainB, Bool.and_eq_true] at hc
        have ha := hc.1
        unfold apartB at ha
        rw [if_pos hk] at ha
        have hk3 : y.k = 3 := by simpa using ha
        have := hy.count (Or.inl hk3)
        have ih2 := nrm_chain (F := s) [] (fun x hx => hF x (by simp [hx])) (chain_tail hc.2)
        show nrm I _ (unitsO y ++ units s) = _ ++ (_ ++ (unitsO y ++ units s))
        rw [unitsO_3 hk3, nrm_keep _ _ (by omega), ih2, Nat.zero_add]
        simp
/-- A canonical list is its own. -/
theorem canon_self {F : List Op5} (hF : ∀ o ∈ F, Wel o) (hc : chainB F = true) (hl : lastP F = true) : canonL F = F :=
  canon_unique hF hF hc (by rw [nrm_chain [] hF hc, List.nil_append, strip_can hF hl])
end Go.Proofs.YtfllomfjhkgaoaaGreatDoor
