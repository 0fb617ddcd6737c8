/- Good lists: what Check lets by; what joins make of good lists is good. -/
import Derived.Test.YtplnojapnaaakaaGreatDoorPJp
namespace Go.Proofs.YtplnojapnaaakaaGreatDoor
open Go Go.RowKit Go.Lib
set_option linter.unusedVariables false
def Good (L : List A2) : Prop := ∀ q ∈ L, pairE q = 0
def keyG (k : ByteArray) : Prop := ¬ (k.toList.isEmpty = true ∨ 64 < k.size) ∧ brk k.data.toList = k.size
theorem pairE_zero {q : A2} : pairE q = 0 ↔ keyG q.1 ∧ chkP q.2 = 0 := by
  unfold pairE keyG
  by_cases h : q.1.toList.isEmpty = true ∨ 64 < q.1.size
  · rw [if_pos h]
    exact ⟨fun h => by omega, fun h2 => absurd h h2.1.1⟩
  · rw [if_neg h]
    by_cases h2 : brk q.1.data.toList = q.1.size
    · rw [if_neg (by simpa using h2)]
      exact ⟨fun h3 => ⟨⟨h, h2⟩, h3⟩, fun h3 => h3.2⟩
    · rw [if_pos h2]
      exact ⟨fun h => by omega, fun h3 => absurd h3.1.2 h2⟩
theorem chk_small {p : P3} (h : chkP p = 0) : p.2.2.size ≤ 1048576 := by
  obtain ⟨k, n, t⟩ := p
  rcases good_cases h with ⟨_, _, h3⟩ | ⟨_, _, h3⟩ | ⟨_, _, h3⟩ | ⟨_, h3⟩ | ⟨_, _, h3⟩
  · simp only at h3 ⊢; rw [h3]; exact Nat.zero_le _
  · simp only at h3 ⊢; rw [h3]; exact Nat.zero_le _
  · simp only at h3 ⊢; rw [h3]; exact Nat.zero_le _
  · simp only at h3 ⊢; rw [h3]; exact Nat.zero_le _
  · rcases txtE_cases t with ⟨_, _, h⟩ | ⟨h, _⟩ | ⟨h, _⟩
    · exact h
    · simp only at h3; omega
    · simp only at h3; omega
theorem good_small {L : List A2} (h : Good L) : Small L := fun q hq => by
  obtain ⟨h1, h2⟩ := pairE_zero.1 (h q hq)
  have := chk_small h2
  refine ⟨?_, by unfold big; omega⟩
  have : ¬ 64 < q.1.size := fun h => h1.1 (Or.inr h)
  unfold big; omega
theorem listE_zero (nulls : Bool) : ∀ (L : List A2) (pv : Option ByteArray), listE nulls pv L = 0 ↔ Good L ∧ (nulls = false → NoNull L) ∧ Up L ∧ ∀ p, pv = some p → ∀ q ∈ L, kc p q.1 < 0
  | [], pv => by
    rw [listE]
    simp [Good, NoNull, Up]
  | q :: r, pv => by
    have ih := listE_zero nulls r (some q.1)
    rw [listE]
    by_cases hE : pairE q = 0
    · rw [if_pos hE]
      by_cases hN : (!nulls && q.2.1 == 0) = true
      · rw [if_pos hN]
        refine ⟨fun h => by omega, fun ⟨_, h, _⟩ => ?_⟩
        simp only [Bool.and_eq_true, Bool.not_eq_true', beq_iff_eq] at hN
        exact absurd hN.2 (h hN.1 q (List.mem_cons_self ..))
      · rw [if_neg hN]
        by_cases hA : above pv q.1 = true
        · rw [if_pos hA, ih]
          constructor
          · rintro ⟨h1, h2, h3, h4⟩
            have h4' : ∀ x ∈ r, kc q.1 x.1 < 0 := h4 q.1 rfl
            refine ⟨fun x hx => ?_, fun hn x hx => ?_, List.pairwise_cons.2 ⟨h4', h3⟩, fun p hp x hx => ?_⟩
            · rcases List.mem_cons.1 hx with rfl | hx
              · exact hE
              · exact h1 x hx
            · rcases List.mem_cons.1 hx with rfl | hx
              · intro h0
                exact hN (by simp [hn, h0])
              · exact h2 hn x hx
            · subst hp
              have hpq : kc p q.1 < 0 := by simpa [above] using hA
              rcases List.mem_cons.1 hx with rfl | hx
              · exact hpq
              · exact kc_lt hpq (h4' x hx)
          · rintro ⟨h1, h2, h3, h4⟩
            exact ⟨fun x hx => h1 x (List.mem_cons_of_mem _ hx), fun hn x hx => h2 hn x (List.mem_cons_of_mem _ hx), List.Pairwise.of_cons h3, fun p hp x hx => by obtain rfl := Option.some.inj hp; exact List.rel_of_pairwise_cons h3 hx⟩
        · rw [if_neg hA]
          refine ⟨fun h => by omega, fun ⟨_, _, _, h⟩ => absurd ?_ hA⟩
          cases pv with
          | none => rfl
          | some p => simpa [above] using h p rfl q (List.mem_cons_self ..)
    · rw [if_neg hE]
      exact ⟨fun h => absurd h hE, fun ⟨h, _⟩ => absurd (h q (List.mem_cons_self ..)) hE⟩
theorem patch_iff {L : List A2} : listE true none L = 0 ↔ Good L ∧ Up L := by
  rw [listE_zero]
  exact ⟨fun ⟨h1, _, h3, _⟩ => ⟨h1, h3⟩, fun ⟨h1, h3⟩ => ⟨h1, fun h => (by cases h), h3, fun p hp => (by cases hp)⟩⟩
theorem set_iff {L : List A2} : listE false none L = 0 ↔ Good L ∧ Up L ∧ NoNull L := by
  rw [listE_zero]
  exact ⟨fun ⟨h1, h2, h3, _⟩ => ⟨h1, h3, h2 rfl⟩, fun ⟨h1, h3, h2⟩ => ⟨h1, fun _ => h2, h3, fun p hp => (by cases hp)⟩⟩
theorem both_zero {A B : List A2} {na nb : Bool} (hA : listE na none A = 0) (hB : listE nb none B = 0) : bothE A na B nb = 0 := by
  unfold bothE; rw [if_pos hA, hB]

/-- A chooser that answers one of the two values. -/
def OneOf (ch : Ch) : Prop := ∀ (ia ib : Bool) (p q : P3), (ch ia ib p q).1 = p ∨ (ch ia ib p q).1 = q
theorem one_C (nulls : Bool) : OneOf (chC nulls) := fun ia ib p q => by
  cases ib
  · exact Or.inl rfl
  · exact Or.inr rfl
theorem look_good {L : List A2} (h : Good L) (k : ByteArray) : chkP ((look k L).getD z0) = 0 := by
  cases e : look k L with
  | none => exact chk_null
  | some v => exact (pairE_zero.1 (h _ (look_mem e))).2
theorem good_jn {ch : Ch} (ho : OneOf ch) {A B : List A2} (gA : Good A) (gB : Good B) (uA : Up A) (uB : Up B) : Good (jn ch A B) := fun q hq => by
  refine pairE_zero.2 ⟨?_, ?_⟩
  · rcases join_keys _ A B q hq with ⟨x, hx, e⟩ | ⟨x, hx, e⟩
    · rw [← e]; exact (pairE_zero.1 (gA x hx)).1
    · rw [← e]; exact (pairE_zero.1 (gB x hx)).1
  · have hv := jn_val uA uB hq
    have hA := look_good gA q.1
    have hB := look_good gB q.1
    have key : ∀ x y : Option P3, chkP (x.getD z0) = 0 → chkP (y.getD z0) = 0 → fOf ch x y = some q.2 → chkP q.2 = 0 := fun x y h1 h2 h => by
      unfold fOf at h
      by_cases ht : (ch x.isSome y.isSome (x.getD z0) (y.getD z0)).2 = true
      · rw [if_pos ht] at h
        obtain h := Option.some.inj h
        rw [← h]
        rcases ho x.isSome y.isSome (x.getD z0) (y.getD z0) with e | e
        · rw [e]; exact h1
        · rw [e]; exact h2
      · rw [if_neg ht] at h; cases h
    cases ea : look q.1 A with
    | none =>
      cases eb : look q.1 B with
      | none => rw [ea, eb] at hv; cases hv
      | some v => rw [ea, eb] at hv; rw [ea] at hA; rw [eb] at hB; exact key _ _ hA hB hv
    | some u => rw [ea] at hv hA; exact key _ _ hA hB (by simpa [at2] using hv)
/-- Patches, and what Check says of them. -/
structure Pat (L : List A2) : Prop where
  good : Good L
  up : Up L
theorem Pat.chk {L : List A2} (h : Pat L) : listE true none L = 0 := patch_iff.2 ⟨h.good, h.up⟩
theorem Pat.small {L : List A2} (h : Pat L) : Small L := good_small h.good
theorem Pat.jn {ch : Ch} (ho : OneOf ch) {A B : List A2} (hA : Pat A) (hB : Pat B) : Pat (jn ch A B) := ⟨good_jn ho hA.good hB.good hA.up hB.up, up_join _ hA.up hB.up⟩
theorem Pat.nil : Pat [] := ⟨fun q hq => (by cases hq), up_nil⟩
theorem Pat.set {L : List A2} (h : Pat L) (hn : NoNull L) : listE false none L = 0 := set_iff.2 ⟨h.good, h.up, hn⟩
theorem pat_of {L : List A2} (h : listE true none L = 0) : Pat L := ⟨(patch_iff.1 h).1, (patch_iff.1 h).2⟩
theorem set_of {L : List A2} (h : listE false none L = 0) : Pat L ∧ NoNull L := ⟨⟨(set_iff.1 h).1, (set_iff.1 h).2.1⟩, (set_iff.1 h).2.2⟩
end Go.Proofs.YtplnojapnaaakaaGreatDoor
