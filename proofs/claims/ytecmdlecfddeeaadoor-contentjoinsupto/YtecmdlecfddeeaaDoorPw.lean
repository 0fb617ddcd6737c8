/- Joins of inserts, purely; Join at all operations. -/
import Derived.Test.YtecmdlecfddeeaaDoorLv
namespace Go.Proofs.YtecmdlecfddeeaaDoor
open Go Go.RowKit Go.Lib
set_option linter.unusedVariables false

theorem chkP_le (p : P3) : chkP p ≤ 10 := chk_le _ _ _
theorem listE_le' (nulls : Bool) : ∀ (L : List A2) (pv : Option ByteArray), listE nulls pv L ≤ 10
  | [], _ => Nat.zero_le _
  | q :: r, pv => by
    have hp : pairE q ≤ 10 := by
      unfold pairE
      split
      · omega
      · split
        · omega
        · exact chk_le _ _ _
    rw [listE]
    split
    · split
      · omega
      · split
        · exact listE_le' nulls r _
        · omega
    · exact hp
theorem insE_le19 (o : Op5) : insE o ≤ 19 := by
  have := insE_le o (fun L => listE_le' false L none)
  omega
theorem joinE_le (o o' : Op5) : joinE o o' ≤ 19 := by
  unfold joinE
  have := insE_le19 o
  have := insE_le19 o'
  split <;> omega
def jB (o o' : Op5) : Bool := decide (joinE o o' = 0) && joinB o o'
def jR (o o' : Op5) : Op5 := if jB o o' = true then joinO o o' else opZ
theorem jB_yes {o o' : Op5} (h : jB o o' = true) : Ins o ∧ Ins o' ∧ o.k = 1 ∧ o'.k = 1 ∧ o.A = o'.A := by
  unfold jB joinB joinE at h
  simp only [Bool.and_eq_true, decide_eq_true_eq] at h
  obtain ⟨h1, h2, h3, h4⟩ := h
  by_cases hi : insE o = 0
  · rw [if_pos hi] at h1
    exact ⟨ins_of hi, ins_of h1, h2, h3, h4⟩
  · rw [if_neg hi] at h1
    exact absurd h1 hi
theorem jB_of {o o' : Op5} (h : Ins o) (h' : Ins o') (hk : o.k = 1) (hk' : o'.k = 1) (hA : o.A = o'.A) : jB o o' = true := by
  unfold jB joinB joinE
  simp [h.zero, h'.zero, hk, hk', hA]
theorem jB_no {o o' : Op5} (h : ¬ (o.k = 1 ∧ o'.k = 1 ∧ o.A = o'.A)) : jB o o' = false := by
  cases hj : jB o o'
  · rfl
  · obtain ⟨_, _, h1, h2, h3⟩ := jB_yes hj
    exact absurd ⟨h1, h2, h3⟩ h
theorem jB_err {o o' : Op5} {e : Nat} (h : joinE o o' = e + 1) : jB o o' = false := by
  unfold jB
  simp [h]
theorem isEmp_size {t : ByteArray} (h : t.toList.isEmpty = false) : 0 < t.size := by
  rcases Nat.eq_zero_or_pos t.size with h0 | h0
  · exfalso
    have : t.toList = [] := by rw [toList_data]; exact List.eq_nil_of_length_eq_zero (by rw [size_toList]; exact h0)
    rw [this] at h; cases h
  · exact h0
theorem size_isEmp {t : ByteArray} (h : 0 < t.size) : t.toList.isEmpty = false := by
  cases he : t.toList.isEmpty
  · rfl
  · rw [emp_iff] at he
    subst he
    exact absurd h (by decide)
theorem cat_list (a b : ByteArray) : (a ++ b).data.toList = a.data.toList ++ b.data.toList := by rw [ByteArray.data_append, Array.toList_append]
theorem scs_cat {a b : List UInt8} (ha : brk a = a.length) (hb : brk b = b.length) : scs (a ++ b) = scs a ++ scs b ∧ brk (a ++ b) = (a ++ b).length := by
  have ea := valid_of_brk ha
  have eb := valid_of_brk hb
  obtain ⟨_, h1, _, _⟩ := text_cases a
  obtain ⟨_, h2, _, _⟩ := text_cases b
  have h12 : ∀ r ∈ scs a ++ scs b, scal r := fun r hr => by
    rcases List.mem_append.1 hr with h | h
    · exact h1 r h
    · exact h2 r h
  have e : a ++ b = encs (scs a ++ scs b) ++ [] := by
    rw [List.append_nil, encs_append, ← ea, ← eb]
  refine ⟨?_, ?_⟩
  · conv => lhs; rw [e]
    exact scs_eq h12 (Or.inl rfl)
  · conv => lhs; rw [e]
    rw [brk_eq h12 (Or.inl rfl), encs_append, ← ea, ← eb]
theorem ins_join {o o' : Op5} (h : Ins o) (h' : Ins o') : Ins (joinO o o') := by
  have hs : (o.t ++ o'.t).size = o.t.size + o'.t.size := ByteArray.size_append
  refine ⟨Or.inl ⟨rfl, rfl⟩, size_isEmp ?_, rfl, ?_, chk_z0, h.set⟩
  · have := isEmp_size h.full
    show 0 < (o.t ++ o'.t).size
    omega
  · show brk (o.t ++ o'.t).data.toList = (o.t ++ o'.t).size
    rw [cat_list, (scs_cat (by rw [h.utf, size_toList]) (by rw [h'.utf, size_toList])).2, List.length_append, size_toList, size_toList, hs]
theorem cells_join {o o' : Op5} (h : Ins o) (h' : Ins o') (hk : o.k = 1) (hk' : o'.k = 1) (hA : o.A = o'.A) : cellsOf (joinO o o') = cellsOf o ++ cellsOf o' := by
  unfold cellsOf
  rw [if_pos (show (joinO o o').k = 1 from rfl), if_pos hk, if_pos hk', ← hA]
  show mkC o.A (scs (o.t ++ o'.t).data.toList) = _
  rw [cat_list, (scs_cat (by rw [h.utf, size_toList]) (by rw [h'.utf, size_toList])).1]
  simp [mkC]
theorem join_assoc (x y z : Op5) : joinO (joinO x y) z = joinO x (joinO y z) := by
  unfold joinO
  simp only [ByteArray.append_assoc]
theorem fit_join {o o' : Op5} (h : Fit o) (hs : o.t.size + o'.t.size ≤ 8388608) : Fit (joinO o o') := ⟨by show (o.t ++ o'.t).size ≤ _; rw [ByteArray.size_append]; exact hs, by show (0 : Nat) ≤ 1048576; decide, h.A, h.n⟩
theorem fit_Z : Fit opZ := ⟨by show (0 : Nat) ≤ 8388608; decide, by show (0 : Nat) ≤ 1048576; decide, fun q hq => (by cases hq), by show (0 : Nat) ≤ 1048576; decide⟩

/-- Join at all operations. -/
theorem join_any {I : List Nat} {a : Nat → Addr} (o o' : Op5) (s s' : Value) (w : World) (hI : ∀ i ∈ IC, i ∈ I) (hS : Std I a w) (hR : RN w s o.A) (hR' : RN w s' o'.A) (hF : Fit o) (hF' : Fit o') :
    Calls Tryd.prog 26 #[opV o s, opV o' s'] w fun r w' => ∃ s1, r = .returned (.tuple #[opV (jR o o') s1, .bool (jB o o'), errOf a (joinE o o')]) ∧ OwnA w' w.heap.size s1 (jR o o').A ∧ Below w.heap.size w w' := by
  have oN : ∀ W, OwnA W w.heap.size nilS [] := fun W => ⟨rfl, Or.inl ⟨rfl, rfl⟩⟩
  have no : ∀ E, E = joinE o o' → jB o o' = false → Calls Tryd.prog 26 #[opV o s, opV o' s'] w (fun r w' => r = .returned (.tuple #[opV opZ nilS, .bool false, errOf a E]) ∧ Below w.heap.size w w') → Calls Tryd.prog 26 #[opV o s, opV o' s'] w fun r w' => ∃ s1, r = .returned (.tuple #[opV (jR o o') s1, .bool (jB o o'), errOf a (joinE o o')]) ∧ OwnA w' w.heap.size s1 (jR o o').A ∧ Below w.heap.size w w' := fun E hE hB c => by
    have hr : jR o o' = opZ := by unfold jR; rw [if_neg (by rw [hB]; exact Bool.false_ne_true)]
    rw [hr, hB, ← hE]
    exact c.mono fun r w' ⟨h1, h2⟩ => ⟨nilS, h1, oN _, h2⟩
  cases h1 : insE o with
  | succ e =>
    have hj : joinE o o' = e + 1 := by unfold joinE; rw [if_neg (by omega), h1]
    exact no (e + 1) hj.symm (jB_err hj) (joinO_no1 o o' s s' w hI hS hR hR' hF hF' e h1)
  | zero =>
    have hO := ins_of h1
    cases h2 : insE o' with
    | succ e =>
      have hj : joinE o o' = e + 1 := by unfold joinE; rw [if_pos h1, h2]
      exact no (e + 1) hj.symm (jB_err hj) (joinO_no2 o o' s s' w hI hS hR hR' hF hF' hO e h2)
    | zero =>
      have hO' := ins_of h2
      have hj : joinE o o' = 0 := by unfold joinE; rw [if_pos h1, h2]
      rcases hO.kind with ⟨hk, _⟩ | ⟨hk, _⟩
      · rcases hO'.kind with ⟨hk', _⟩ | ⟨hk', _⟩
        · by_cases hA : o.A = o'.A
          · have hB := jB_of hO hO' hk hk' hA
            have hr : jR o o' = joinO o o' := by unfold jR; rw [if_pos hB]
            rw [hr, hB, hj]
            exact joinO_ok o o' s s' w hI hS hR hR' hF hF' hO hO' hk hk' hA
          · exact no 0 hj.symm (jB_no fun h => hA h.2.2) (joinO_ne o o' s s' w hI hS hR hR' hF hF' hO hO' hk hk' hA)
        · exact no 0 hj.symm (jB_no fun h => by have := h.2.1; omega) (joinO_te o o' s s' w hI hS hR hR' hF hF' hO hO' hk hk')
      · rcases hO'.kind with ⟨hk', _⟩ | ⟨hk', _⟩
        · exact no 0 hj.symm (jB_no fun h => by have := h.1; omega) (joinO_et o o' s s' w hI hS hR hR' hF hF' hO hO' hk hk')
        · exact no 0 hj.symm (jB_no fun h => by have := h.1; omega) (joinO_ee o o' s s' w hI hS hR hR' hF hF' hO hO' hk hk')
end Go.Proofs.YtecmdlecfddeeaaDoor
