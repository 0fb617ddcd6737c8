/- The pieces of a cut text, purely. -/
import Derived.Test.YtecmdlecfddeeaaDoorPw
namespace Go.Proofs.YtecmdlecfddeeaaDoor
open Go Go.RowKit Go.Lib
set_option linter.unusedVariables false

/-- The two pieces of an insert. -/
def headO (o : Op5) (m : Nat) : Op5 := ⟨1, o.t.extract 0 (pos (scs o.t.data.toList) m), z0, 0, o.A⟩
def tailO (o : Op5) (m : Nat) : Op5 := ⟨1, o.t.extract (pos (scs o.t.data.toList) m) o.t.size, z0, 0, o.A⟩

theorem scs_of {rs : List Nat} (h : ∀ r ∈ rs, scal r) : scs (encs rs) = rs ∧ brk (encs rs) = (encs rs).length := by
  have h1 := scs_eq (t := []) h (Or.inl rfl)
  have h2 := brk_eq (t := []) h (Or.inl rfl)
  rw [List.append_nil] at h1 h2
  exact ⟨h1, h2⟩
theorem head_list {o : Op5} (h : brk o.t.data.toList = o.t.size) (m : Nat) : (headO o m).t.data.toList = encs ((scs o.t.data.toList).take m) := by
  obtain ⟨_, h2, _⟩ := valid_text o.t h
  obtain ⟨rs, hrs⟩ : ∃ rs, scs o.t.data.toList = rs := ⟨_, rfl⟩
  show (o.t.extract 0 _).data.toList = _
  rw [hrs] at h2 ⊢
  rw [extract_of o.t (encs (rs.take m)) 0 _ (by rw [h2, List.drop_zero, Nat.sub_zero, take_pos])]
theorem tail_list {o : Op5} (h : brk o.t.data.toList = o.t.size) (m : Nat) : (tailO o m).t.data.toList = encs ((scs o.t.data.toList).drop m) := by
  obtain ⟨_, h2, _⟩ := valid_text o.t h
  have hs := size_toList o.t
  obtain ⟨rs, hrs⟩ : ∃ rs, scs o.t.data.toList = rs := ⟨_, rfl⟩
  show (o.t.extract _ _).data.toList = _
  rw [hrs] at h2 ⊢
  rw [extract_of o.t (encs (rs.drop m)) _ _ (by
    rw [List.take_of_length_le (by rw [List.length_drop, hs]; exact Nat.le_refl _), h2, drop_pos])]
theorem encs_len0 {rs : List Nat} (h : ∀ r ∈ rs, scal r) : rs.length ≤ (encs rs).length := by
  induction rs with
  | nil => exact Nat.le_refl _
  | cons x rs ih =>
    have := enc_pos (h x (by simp))
    have := ih fun r hr => h r (by simp [hr])
    simp only [encs, List.length_append, List.length_cons]
    omega
/-- A text of scalars, one at least, is an insert. -/
theorem ins_list {o o' : Op5} {rs : List Nat} (h : Ins o) (hs : ∀ r ∈ rs, scal r) (h0 : 0 < rs.length) (hk : o'.k = 1) (hv : o'.v = z0) (hc : o'.c = 0) (hA : o'.A = o.A) (ht : o'.t.data.toList = encs rs) : Ins o' ∧ lenO o' = rs.length := by
  obtain ⟨e1, e2⟩ := scs_of hs
  have hl := encs_len0 hs
  have hz := size_toList o'.t
  rw [ht] at hz
  refine ⟨⟨Or.inl ⟨hk, hv⟩, size_isEmp (by omega), hc, by rw [ht, e2, hz], by rw [hv]; exact chk_z0, by rw [hA]; exact h.set⟩, ?_⟩
  unfold lenO
  rw [if_pos hk, ht, e1]
theorem ins_head {o : Op5} (h : Ins o) {m : Nat} (h1 : 1 ≤ m) (hm : m < (scs o.t.data.toList).length) : Ins (headO o m) ∧ lenO (headO o m) = m := by
  have := ins_list (o' := headO o m) h (rs := (scs o.t.data.toList).take m) (fun r hr => (valid_text o.t h.utf).1 r (List.mem_of_mem_take hr)) (by rw [List.length_take]; omega) rfl rfl rfl rfl (head_list h.utf m)
  rw [List.length_take] at this
  exact ⟨this.1, by rw [this.2]; omega⟩
theorem ins_tail {o : Op5} (h : Ins o) {m : Nat} (hm : m < (scs o.t.data.toList).length) : Ins (tailO o m) ∧ lenO (tailO o m) = (scs o.t.data.toList).length - m := by
  have := ins_list (o' := tailO o m) h (rs := (scs o.t.data.toList).drop m) (fun r hr => (valid_text o.t h.utf).1 r (List.mem_of_mem_drop hr)) (by rw [List.length_drop]; omega) rfl rfl rfl rfl (tail_list h.utf m)
  rw [List.length_drop] at this
  exact this
theorem head_tail {o : Op5} (h : Ins o) (hk : o.k = 1) (m : Nat) : joinO (headO o m) (tailO o m) = o := by
  have hv : o.v = z0 := by
    rcases h.kind with ⟨_, hv⟩ | ⟨h2, _⟩
    · exact hv
    · omega
  have ht : (headO o m).t ++ (tailO o m).t = o.t := by
    apply ByteArray.ext
    apply Array.ext'
    rw [cat_list, head_list h.utf, tail_list h.utf, ← encs_append, List.take_append_drop]
    exact (valid_text o.t h.utf).2.1.symm
  have hc := h.count
  obtain ⟨k, t, v, c, A⟩ := o
  simp only at hk hv hc
  subst hk hv hc
  show (⟨1, (headO _ m).t ++ (tailO _ m).t, z0, 0, A⟩ : Op5) = _
  rw [ht]
theorem size_head (o : Op5) (m : Nat) : (headO o m).t.size ≤ o.t.size := by show (o.t.extract _ _).size ≤ _; rw [ByteArray.size_extract]; omega
theorem size_tail (o : Op5) (m : Nat) : (tailO o m).t.size ≤ o.t.size := by show (o.t.extract _ _).size ≤ _; rw [ByteArray.size_extract]; omega
theorem fit_head {o : Op5} (h : Fit o) (m : Nat) : Fit (headO o m) := ⟨Nat.le_trans (size_head o m) h.t, by show (0 : Nat) ≤ 1048576; decide, h.A, h.n⟩
theorem fit_tail {o : Op5} (h : Fit o) (m : Nat) : Fit (tailO o m) := ⟨Nat.le_trans (size_tail o m) h.t, by show (0 : Nat) ≤ 1048576; decide, h.A, h.n⟩
theorem cells_cut {o : Op5} (h : Ins o) (hk : o.k = 1) {m : Nat} (h1 : 1 ≤ m) (hm : m < (scs o.t.data.toList).length) : cellsOf o = cellsOf (headO o m) ++ cellsOf (tailO o m) := by
  have := cells_join (ins_head h h1 hm).1 (ins_tail h hm).1 rfl rfl rfl
  rwa [head_tail h hk] at this
theorem lenO_pos {o : Op5} (h : Ins o) : 1 ≤ lenO o := by
  unfold lenO
  split
  · have h0 := isEmp_size h.full
    obtain ⟨_, h2, _⟩ := valid_text o.t h.utf
    rcases Nat.eq_zero_or_pos (scs o.t.data.toList).length with e | e
    · rw [List.eq_nil_of_length_eq_zero e] at h2
      have := size_toList o.t
      rw [h2] at this
      simp only [encs, List.length_nil] at this
      omega
    · exact e
  · exact Nat.le_refl _
theorem lenO_2 {o : Op5} (h : Ins o) (h2 : 2 ≤ lenO o) : o.k = 1 ∧ lenO o = (scs o.t.data.toList).length := by
  unfold lenO at h2 ⊢
  by_cases hk : o.k = 1
  · exact ⟨hk, if_pos hk⟩
  · rw [if_neg hk] at h2; omega
end Go.Proofs.YtecmdlecfddeeaaDoor
