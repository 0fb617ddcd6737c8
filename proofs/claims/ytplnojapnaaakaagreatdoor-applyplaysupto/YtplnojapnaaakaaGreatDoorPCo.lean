/- Operations as plain data; what an insert is refused with. -/
import Derived.Test.YtplnojapnaaakaaGreatDoorPPc
import Derived.Test.YtplnojapnaaakaaGreatDoorPLe
import Derived.Test.YtplnojapnaaakaaGreatDoorPJp
namespace Go.Proofs.YtplnojapnaaakaaGreatDoor
open Go Go.RowKit Go.Lib
set_option linter.unusedVariables false
/-- An operation's fields. -/
structure Op5 where
  k : Int
  t : ByteArray
  v : P3
  c : Int
  A : List A2
deriving DecidableEq
/-- An operation as a value, its list being s. -/
abbrev opV (o : Op5) (s : Value) : Value := .agg #[.int .i64 o.k, .string o.t, .int .i64 o.v.1, .int .i64 o.v.2.1, .string o.v.2.2, .int .i64 o.c, s]
/-- What an insert's own fields are refused with. -/
def fldE (o : Op5) : Nat :=
  if o.k ≠ 1 ∧ o.k ≠ 2 then 5
  else if o.c ≠ 0 ∨ (o.k = 1 ∧ (o.t.toList.isEmpty = true ∨ o.v ≠ z0)) then 9
  else if o.k = 2 ∧ (o.t.toList.isEmpty = true ∨ 64 < o.t.size) then 6 else 0
/-- What an insert is refused with. -/
def insE (o : Op5) : Nat :=
  if fldE o ≠ 0 then fldE o else if brk o.t.data.toList ≠ o.t.size then 1 else if chkP o.v ≠ 0 then chkP o.v else listE false none o.A
/-- How many cells an insert has. -/
def lenO (o : Op5) : Nat := if o.k = 1 then (scs o.t.data.toList).length else 1

theorem chk_z0 : chkP z0 = 0 := chk_null
/-- What is known of an insert that isn't refused. -/
structure Ins (o : Op5) : Prop where
  kind : o.k = 1 ∧ o.v = z0 ∨ o.k = 2 ∧ o.t.size ≤ 64
  full : o.t.toList.isEmpty = false
  count : o.c = 0
  utf : brk o.t.data.toList = o.t.size
  val : chkP o.v = 0
  set : listE false none o.A = 0
theorem ins_of {o : Op5} (h : insE o = 0) : Ins o := by
  unfold insE at h
  by_cases hf : fldE o = 0
  · rw [if_neg (by simpa using hf)] at h
    by_cases hb : brk o.t.data.toList = o.t.size
    · rw [if_neg (by simpa using hb)] at h
      by_cases hv : chkP o.v = 0
      · rw [if_neg (by simpa using hv)] at h
        unfold fldE at hf
        by_cases h1 : o.k ≠ 1 ∧ o.k ≠ 2
        · rw [if_pos h1] at hf; cases hf
        · rw [if_neg h1] at hf
          by_cases h2 : o.c ≠ 0 ∨ (o.k = 1 ∧ (o.t.toList.isEmpty = true ∨ o.v ≠ z0))
          · rw [if_pos h2] at hf; cases hf
          · rw [if_neg h2] at hf
            by_cases h3 : o.k = 2 ∧ (o.t.toList.isEmpty = true ∨ 64 < o.t.size)
            · rw [if_pos h3] at hf; cases hf
            · have hc : o.c = 0 := Decidable.byContradiction fun hc => h2 (Or.inl hc)
              by_cases hk : o.k = 1
              · refine ⟨Or.inl ⟨hk, Decidable.byContradiction fun hz => h2 (Or.inr ⟨hk, Or.inr hz⟩)⟩, ?_, hc, hb, hv, h⟩
                cases he : o.t.toList.isEmpty
                · rfl
                · exact absurd (Or.inr ⟨hk, Or.inl he⟩) h2
              · have hk2 : o.k = 2 := Decidable.byContradiction fun hz => h1 ⟨hk, hz⟩
                refine ⟨Or.inr ⟨hk2, Nat.le_of_not_lt fun hz => h3 ⟨hk2, Or.inr hz⟩⟩, ?_, hc, hb, hv, h⟩
                cases he : o.t.toList.isEmpty
                · rfl
                · exact absurd ⟨hk2, Or.inl he⟩ h3
      · rw [if_pos (by simpa using hv)] at h; exact absurd h hv
    · rw [if_pos (by simpa using hb)] at h; cases h
  · rw [if_pos (by simpa using hf)] at h; exact absurd h hf
theorem Ins.fld {o : Op5} (h : Ins o) : fldE o = 0 := by
  unfold fldE
  rcases h.kind with ⟨k, v⟩ | ⟨k, t⟩
  · rw [if_neg (fun x => x.1 k), if_neg, if_neg]
    · rw [k]; rintro ⟨x, _⟩; cases x
    · rintro (x | ⟨_, x | x⟩)
      · exact x h.count
      · rw [h.full] at x; cases x
      · exact x v
  · rw [if_neg (fun x => x.2 k), if_neg, if_neg]
    · rintro ⟨_, x | x⟩
      · rw [h.full] at x; cases x
      · omega
    · rintro (x | ⟨x, _⟩)
      · exact x h.count
      · rw [k] at x; cases x
theorem Ins.zero {o : Op5} (h : Ins o) : insE o = 0 := by
  unfold insE
  rw [if_neg (by simpa using h.fld), if_neg (by simpa using h.utf), if_neg (by simpa using h.val)]
  exact h.set
/-- Under the empty patch a set is itself. -/
theorem comp_nil {A : List A2} (h : listE false none A = 0) : jn (chC false) A [] = A := by
  obtain ⟨_, ha, hn⟩ := set_iff.1 h
  refine up_ext (up_join _ ha up_nil) ha fun k => ?_
  rw [look_join _ ha up_nil]
  cases e : look k A with
  | none => simp [at2, look]
  | some v =>
    have := nn_look hn e
    simp [at2, fOf, chC, look, this]
theorem bothE_nil (A : List A2) : bothE A false [] true = listE false none A := by
  unfold bothE
  by_cases h : listE false none A = 0
  · rw [if_pos h, h]; rfl
  · rw [if_neg h]
end Go.Proofs.YtplnojapnaaakaaGreatDoor
