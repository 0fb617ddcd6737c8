/- Deltas unit by unit: inverses; lengths of what comes; compositions and carried deltas are well formed. The pieces of a cut text, purely. Deltas unit by unit: parts and turned parts; documents and their cells. A delta gone through in pieces, purely. A loop over a function whose function writes memory of its own between two rounds, and asks for rounds at what it has laid. Where a piece of a text ends. build: own and Pieces: a delta's pieces, each with a list of its own. A Walker in memory: its own cell, the row of what is left. Calls of a piece's methods through the interface; the Walker's small calls. measure: gathered: pieces of deltas put into one. What the reference of layer 1 answers: Scalar, Encode (and what its decoder needs: places, numbers, owned rows of numbers). What the reference's first answers: the scalar with whose encoding a text begins at a place. -/
import Derived.Test.YtgimcloadjjefabGreatDoorMgc
import Derived.Test.YtgimcloadjjefabGreatDoorMga
import Derived.RangeFuncNested
import Derived.RangeFuncBound
import Derived.RangeFuncCalls
import Derived.RangeFuncLeaves
import Derived.Test.YtgimcloadjjefabGreatDoorLe
import Derived.Deep.RegionHeld3
import Derived.Test.YtgimcloadjjefabGreatDoorSc
import Derived.Test.YtgimcloadjjefabGreatDoorOwn
import Derived.Test.YtgimcloadjjefabGreatDoorPos
import Derived.Laws.BytesArg
import Derived.Laws.RangeString
import Derived.Laws.RangeAny
import Derived.Deep.RegionWith
import Derived.PlainAid
import Derived.Handy
import Derived.Lib.QuietBelow
import Derived.BigQuiet

/- Deltas unit by unit: inverses; lengths of what comes; compositions and carried deltas are well formed. -/
namespace Go.Proofs.YtgimcloadjjefabGreatDoor
open Go Go.RowKit Go.Lib
set_option linter.unusedVariables false

/-- What undoes U over cells. -/
def invU : List U6 → List C5 → List U6
  | [], _ => []
  | .ins c :: U, cs => .del :: invU U cs
  | .keep A :: U, c :: cs => .keep (jn chD (patC c A).2.2.2 c.2.2.2) :: invU U cs
  | .keep A :: U, [] => []
  | .del :: U, c :: cs => .ins c :: invU U cs
  | .del :: U, [] => []
theorem patC_back {c : C5} {A : List A2} (hc : listE false none c.2.2.2 = 0) (hA : Pat A) : patC (patC c A) (jn chD (patC c A).2.2.2 c.2.2.2) = c := by
  obtain ⟨p, n⟩ := set_of hc
  obtain ⟨p', n'⟩ := set_of (patC_set hc hA)
  obtain ⟨a, b, d, e⟩ := c
  show (a, b, d, jn (chC false) (patC (a, b, d, e) A).2.2.2 _) = _
  rw [undone2 p'.up p.up n' n]
/-- **What U did, its inverse undoes.** -/
theorem edit_inv : ∀ (U : List U6) (cs xs : List C5), (∀ u ∈ U, GoodU u) → SetC cs → edit U cs = some xs → edit (invU U cs) xs = some cs
  | [], cs, xs, _, _, h => by
    obtain rfl := Option.some.inj h
    rw [invU]; rfl
  | .ins c :: U, cs, xs, hU, hs, h => by
    rw [edit_ins] at h
    obtain ⟨y, hy, rfl⟩ := Option.map_eq_some_iff.1 h
    rw [invU, edit_del]
    exact edit_inv U cs y (fun u hu => hU u (List.mem_cons_of_mem _ hu)) hs hy
  | .keep A :: U, [], xs, _, _, h => by cases h
  | .keep A :: U, c :: cs, xs, hU, hs, h => by
    obtain ⟨h1, h2⟩ := setc_cons.1 hs
    rw [edit_keep] at h
    obtain ⟨y, hy, rfl⟩ := Option.map_eq_some_iff.1 h
    rw [invU, edit_keep, edit_inv U cs y (fun u hu => hU u (List.mem_cons_of_mem _ hu)) h2 hy, patC_back h1 (hU (.keep A) (List.mem_cons_self ..))]
    rfl
  | .del :: U, [], xs, _, _, h => by cases h
  | .del :: U, c :: cs, xs, hU, hs, h => by
    rw [edit_del] at h
    rw [invU, edit_ins, edit_inv U cs xs (fun u hu => hU u (List.mem_cons_of_mem _ hu)) (setc_cons.1 hs).2 h]
    rfl
/-- How many cells come of it. -/
theorem edit_len : ∀ (U : List U6) (cs xs : List C5), edit U cs = some xs → xs.length + baseU U = cs.length + resU U
  | [], cs, xs, h => by obtain rfl := Option.some.inj h; rfl
  | .ins c :: U, cs, xs, h => by
    rw [edit_ins] at h
    obtain ⟨y, hy, rfl⟩ := Option.map_eq_some_iff.1 h
    have := edit_len U cs y hy
    have e : resU (.ins c :: U) = resU U + 1 := by unfold resU; rw [List.countP_cons]; rfl
    rw [base_cons, e, List.length_cons]
    simp only; omega
  | .keep A :: U, [], xs, h => by cases h
  | .keep A :: U, c :: cs, xs, h => by
    rw [edit_keep] at h
    obtain ⟨y, hy, rfl⟩ := Option.map_eq_some_iff.1 h
    have := edit_len U cs y hy
    have e : resU (.keep A :: U) = resU U + 1 := by unfold resU; rw [List.countP_cons]; rfl
    rw [base_cons, e, List.length_cons, List.length_cons]
    simp only; omega
  | .del :: U, [], xs, h => by cases h
  | .del :: U, c :: cs, xs, h => by
    have := edit_len U cs xs h
    have e : resU (.del :: U) = resU U := by unfold resU; rw [List.countP_cons]; rfl
    rw [base_cons, e, List.length_cons]
    simp only; omega
theorem edit_none : ∀ (U : List U6) (cs : List C5), cs.length < baseU U → edit U cs = none
  | [], cs, h => by simp [baseU] at h
  | .ins c :: U, cs, h => by
    rw [base_cons] at h
    rw [edit_ins, edit_none U cs (by simpa using h)]; rfl
  | .keep A :: U, [], _ => rfl
  | .keep A :: U, c :: cs, h => by
    rw [base_cons] at h
    rw [edit_keep, edit_none U cs (by simpa using h)]; rfl
  | .del :: U, [], _ => rfl
  | .del :: U, c :: cs, h => by
    rw [base_cons] at h
    rw [edit_del, edit_none U cs (by simpa using h)]
theorem good_comp : ∀ (U V : List U6), (∀ u ∈ U, GoodU u) → (∀ u ∈ V, GoodU u) → ∀ u ∈ compU U V, GoodU u
  | U, [], hU, _ => by rw [compU]; exact hU
  | U, .ins c :: V, hU, hV => by
    rw [compU]
    intro u hu
    rcases List.mem_cons.1 hu with rfl | hu
    · exact hV _ (List.mem_cons_self ..)
    · exact good_comp U V hU (fun u hu => hV u (List.mem_cons_of_mem _ hu)) u hu
  | [], .keep B :: V, _, hV => by rw [compU]; exact hV
  | [], .del :: V, _, hV => by rw [compU]; exact hV
  | .del :: U, .keep B :: V, hU, hV => by
    rw [compU]
    intro u hu
    rcases List.mem_cons.1 hu with rfl | hu
    · trivial
    · exact good_comp U (.keep B :: V) (fun u hu => hU u (List.mem_cons_of_mem _ hu)) hV u hu
  | .del :: U, .del :: V, hU, hV => by
    rw [compU]
    intro u hu
    rcases List.mem_cons.1 hu with rfl | hu
    · trivial
    · exact good_comp U (.del :: V) (fun u hu => hU u (List.mem_cons_of_mem _ hu)) hV u hu
  | .ins c :: U, .keep B :: V, hU, hV => by
    rw [compU]
    intro u hu
    rcases List.mem_cons.1 hu with rfl | hu
    · have h1 := hU (.ins c) (List.mem_cons_self ..)
      exact ⟨patC_set h1.1 (hV (.keep B) (List.mem_cons_self ..)), h1.2⟩
    · exact good_comp U V (fun u hu => hU u (List.mem_cons_of_mem _ hu)) (fun u hu => hV u (List.mem_cons_of_mem _ hu)) u hu
  | .ins c :: U, .del :: V, hU, hV => by
    rw [compU]
    exact good_comp U V (fun u hu => hU u (List.mem_cons_of_mem _ hu)) (fun u hu => hV u (List.mem_cons_of_mem _ hu))
  | .keep A :: U, .keep B :: V, hU, hV => by
    rw [compU]
    intro u hu
    rcases List.mem_cons.1 hu with rfl | hu
    · exact Pat.jn (one_C true) (hU (.keep A) (List.mem_cons_self ..)) (hV (.keep B) (List.mem_cons_self ..))
    · exact good_comp U V (fun u hu => hU u (List.mem_cons_of_mem _ hu)) (fun u hu => hV u (List.mem_cons_of_mem _ hu)) u hu
  | .keep A :: U, .del :: V, hU, hV => by
    rw [compU]
    intro u hu
    rcases List.mem_cons.1 hu with rfl | hu
    · trivial
    · exact good_comp U V (fun u hu => hU u (List.mem_cons_of_mem _ hu)) (fun u hu => hV u (List.mem_cons_of_mem _ hu)) u hu
termination_by U V => U.length + V.length
theorem good_trans (f : Bool) : ∀ (U V : List U6), (∀ u ∈ U, GoodU u) → (∀ u ∈ V, GoodU u) → ∀ u ∈ transU f U V, GoodU u
  | [], V, _, hV => by rw [transU]; exact hV
  | .ins c :: U, .ins d :: V, hU, hV => by
    rw [transU]
    intro u hu
    split at hu
    · rcases List.mem_cons.1 hu with rfl | hu
      · exact Pat.nil
      · exact good_trans f U (.ins d :: V) (fun u hu => hU u (List.mem_cons_of_mem _ hu)) hV u hu
    · rcases List.mem_cons.1 hu with rfl | hu
      · exact hV _ (List.mem_cons_self ..)
      · exact good_trans f (.ins c :: U) V hU (fun u hu => hV u (List.mem_cons_of_mem _ hu)) u hu
  | .ins c :: U, [], hU, hV => by
    rw [transU]
    intro u hu
    rcases List.mem_cons.1 hu with rfl | hu
    · exact Pat.nil
    · exact good_trans f U [] (fun u hu => hU u (List.mem_cons_of_mem _ hu)) hV u hu
  | .ins c :: U, .keep B :: V, hU, hV => by
    rw [transU]
    intro u hu
    rcases List.mem_cons.1 hu with rfl | hu
    · exact Pat.nil
    · exact good_trans f U (.keep B :: V) (fun u hu => hU u (List.mem_cons_of_mem _ hu)) hV u hu
  | .ins c :: U, .del :: V, hU, hV => by
    rw [transU]
    intro u hu
    rcases List.mem_cons.1 hu with rfl | hu
    · exact Pat.nil
    · exact good_trans f U (.del :: V) (fun u hu => hU u (List.mem_cons_of_mem _ hu)) hV u hu
  | .keep A :: U, .ins d :: V, hU, hV => by
    rw [transU]
    intro u hu
    rcases List.mem_cons.1 hu with rfl | hu
    · exact hV _ (List.mem_cons_self ..)
    · exact good_trans f (.keep A :: U) V hU (fun u hu => hV u (List.mem_cons_of_mem _ hu)) u hu
  | .del :: U, .ins d :: V, hU, hV => by
    rw [transU]
    intro u hu
    rcases List.mem_cons.1 hu with rfl | hu
    · exact hV _ (List.mem_cons_self ..)
    · exact good_trans f (.del :: U) V hU (fun u hu => hV u (List.mem_cons_of_mem _ hu)) u hu
  | .keep A :: U, [], hU, hV => by
    rw [transU]
    intro u hu
    rcases List.mem_cons.1 hu with rfl | hu
    · exact Pat.nil
    · exact good_trans f U [] (fun u hu => hU u (List.mem_cons_of_mem _ hu)) hV u hu
  | .del :: U, [], hU, hV => by rw [transU]; exact good_trans f U [] (fun u hu => hU u (List.mem_cons_of_mem _ hu)) hV
  | .keep A :: U, .keep B :: V, hU, hV => by
    rw [transU]
    intro u hu
    rcases List.mem_cons.1 hu with rfl | hu
    · exact Pat.jn (one_T f) (hU (.keep A) (List.mem_cons_self ..)) (hV (.keep B) (List.mem_cons_self ..))
    · exact good_trans f U V (fun u hu => hU u (List.mem_cons_of_mem _ hu)) (fun u hu => hV u (List.mem_cons_of_mem _ hu)) u hu
  | .keep A :: U, .del :: V, hU, hV => by
    rw [transU]
    intro u hu
    rcases List.mem_cons.1 hu with rfl | hu
    · trivial
    · exact good_trans f U V (fun u hu => hU u (List.mem_cons_of_mem _ hu)) (fun u hu => hV u (List.mem_cons_of_mem _ hu)) u hu
  | .del :: U, .keep B :: V, hU, hV => by rw [transU]; exact good_trans f U V (fun u hu => hU u (List.mem_cons_of_mem _ hu)) (fun u hu => hV u (List.mem_cons_of_mem _ hu))
  | .del :: U, .del :: V, hU, hV => by rw [transU]; exact good_trans f U V (fun u hu => hU u (List.mem_cons_of_mem _ hu)) (fun u hu => hV u (List.mem_cons_of_mem _ hu))
termination_by U V => U.length + V.length

/-- A list of operations whose units are some and the canonical list of it: how the units of what is computed by runs are used. -/
theorem canon_edit {R : List Op5} (hR : ∀ o ∈ R, Wel o) {cs : List C5} (hs : SetC cs) (hl : baseU (units R) ≤ cs.length) : edit (units (canonL R)) cs = edit (units R) cs := by
  obtain ⟨xs, hx⟩ := edit_some hl
  rw [edit_canon hR hs hx, hx]
/-- **Composing is associative**: E then F then G, in any brackets, the parts put in order behind each step. -/
theorem comp_assoc {E F G R S L M : List Op5} (hE : ∀ o ∈ E, Wel o) (hF : ∀ o ∈ F, Wel o) (hG : ∀ o ∈ G, Wel o)
    (hR : ∀ o ∈ R, Wel o) (eR : units R = compU (units E) (units F)) (hS : ∀ o ∈ S, Wel o) (eS : units S = compU (units F) (units G))
    (hL : ∀ o ∈ L, Wel o) (eL : units L = compU (units (canonL R)) (units G)) (hM : ∀ o ∈ M, Wel o) (eM : units M = compU (units E) (units (canonL S))) : canonL L = canonL M := by
  obtain ⟨l1, l2, l3, _⟩ := canon_spec hL
  obtain ⟨m1, m2, m3, _⟩ := canon_spec hM
  obtain ⟨r1, _, _, _⟩ := canon_spec hR
  obtain ⟨s1, _, _, _⟩ := canon_spec hS
  refine canon_ext l1 m1 l2 m2 l3 m3 (baseU (units L) + baseU (units M) + baseU (units R) + baseU (units E) + baseU (units S)) fun cs hs hn => ?_
  rw [canon_edit hL hs (by omega), canon_edit hM hs (by omega), eL, eM, edit_comp _ _ _ (good_units r1) (good_units hG) hs, edit_comp _ _ _ (good_units hE) (good_units s1) hs,
    canon_edit hR hs (by omega), eR, edit_comp _ _ _ (good_units hE) (good_units hF) hs]
  obtain ⟨xs, hx⟩ := edit_some (U := units E) (cs := cs) (by omega)
  have hxs := edit_setc (good_units hE) hs hx
  have hlen := edit_len _ _ _ hx
  rw [hx]
  simp only [Option.bind_some]
  have key : edit (units (canonL S)) xs = edit (units S) xs := canon_edit hS hxs (by omega)
  rw [key, eS, edit_comp _ _ _ (good_units hF) (good_units hG) hxs]
/-- **Both ways round make one delta**: E and what F is carried over it, F and what E is carried over it. -/
theorem both_one {E F P Q L M : List Op5} (f : Bool) (hE : ∀ o ∈ E, Wel o) (hF : ∀ o ∈ F, Wel o)
    (hP : ∀ o ∈ P, Wel o) (eP : units P = transU f (units E) (units F)) (hQ : ∀ o ∈ Q, Wel o) (eQ : units Q = transU (!f) (units F) (units E))
    (hL : ∀ o ∈ L, Wel o) (eL : units L = compU (units E) (units (canonL P))) (hM : ∀ o ∈ M, Wel o) (eM : units M = compU (units F) (units (canonL Q))) : canonL L = canonL M := by
  obtain ⟨l1, l2, l3, _⟩ := canon_spec hL
  obtain ⟨m1, m2, m3, _⟩ := canon_spec hM
  obtain ⟨p1, _, _, _⟩ := canon_spec hP
  obtain ⟨q1, _, _, _⟩ := canon_spec hQ
  refine canon_ext l1 m1 l2 m2 l3 m3 (baseU (units L) + baseU (units M) + baseU (units E) + baseU (units F) + baseU (units P) + baseU (units Q)) fun cs hs hn => ?_
  rw [canon_edit hL hs (by omega), canon_edit hM hs (by omega), eL, eM, edit_comp _ _ _ (good_units hE) (good_units p1) hs, edit_comp _ _ _ (good_units hF) (good_units q1) hs]
  have hb := edit_both f (units E) (units F) cs (good_units hE) (good_units hF) hs
  rw [← eP, ← eQ] at hb
  obtain ⟨xs, hx⟩ := edit_some (U := units E) (cs := cs) (by omega)
  obtain ⟨ys, hy⟩ := edit_some (U := units F) (cs := cs) (by omega)
  have sx := edit_setc (good_units hE) hs hx
  have sy := edit_setc (good_units hF) hs hy
  have lx := edit_len _ _ _ hx
  have ly := edit_len _ _ _ hy
  rw [hx, hy] at hb ⊢
  simp only [Option.bind_some] at hb ⊢
  rw [canon_edit hP sx (by omega), canon_edit hQ sy (by omega)]
  exact hb
end Go.Proofs.YtgimcloadjjefabGreatDoor

/- The pieces of a cut text, purely. -/
namespace Go.Proofs.YtgimcloadjjefabGreatDoor
open Go Go.RowKit Go.Lib
set_option linter.unusedVariables false

/-- The two pieces of an insert. -/
def headO (o : Op5) (m : Nat) : Op5 := ⟨1, o.t.extract 0 (pos (scs o.t.data.toList) m), z0, 0, o.A⟩
def tailO (o : Op5) (m : Nat) : Op5 := ⟨1, o.t.extract (pos (scs o.t.data.toList) m) o.t.size, z0, 0, o.A⟩

theorem scs_of {rs : List Nat} (h : ∀ r ∈ rs, scal r) : scs (encs rs) = rs ∧ brk (encs rs) = (encs rs).length := by
  have h1 := scs_eq (t := []) h (Or.inl rfl)
  have h2 := brk_eq (t := []) h (Or.inl rfl)
  rw [List.append_nil] at h1 h2
  exact ⟨h1, h2⟩
theorem head_list {o : Op5} (h : brk o.t.data.toList = o.t.size) (m : Nat) : (headO o m).t.data.toList = encs ((scs o.t.data.toList).take m) := by
  obtain ⟨_, h2, _⟩ := valid_text o.t h
  obtain ⟨rs, hrs⟩ : ∃ rs, scs o.t.data.toList = rs := ⟨_, rfl⟩
  show (o.t.extract 0 _).data.toList = _
  rw [hrs] at h2 ⊢
  rw [extract_of o.t (encs (rs.take m)) 0 _ (by rw [h2, List.drop_zero, Nat.sub_zero, take_pos])]
theorem tail_list {o : Op5} (h : brk o.t.data.toList = o.t.size) (m : Nat) : (tailO o m).t.data.toList = encs ((scs o.t.data.toList).drop m) := by
  obtain ⟨_, h2, _⟩ := valid_text o.t h
  have hs := size_toList o.t
  obtain ⟨rs, hrs⟩ : ∃ rs, scs o.t.data.toList = rs := ⟨_, rfl⟩
  show (o.t.extract _ _).data.toList = _
  rw [hrs] at h2 ⊢
  rw [extract_of o.t (encs (rs.drop m)) _ _ (by
    rw [List.take_of_length_le (by rw [List.length_drop, hs]; exact Nat.le_refl _), h2, drop_pos])]
theorem encs_len0 {rs : List Nat} (h : ∀ r ∈ rs, scal r) : rs.length ≤ (encs rs).length := by
  induction rs with
  | nil => exact Nat.le_refl _
  | cons x rs ih =>
    have := enc_pos (h x (by simp))
    have := ih fun r hr => h r (by simp [hr])
    simp only [encs, List.length_append, List.length_cons]
    omega
/-- A text of scalars, one at least, is an insert. -/
theorem ins_list {o o' : Op5} {rs : List Nat} (h : Ins o) (hs : ∀ r ∈ rs, scal r) (h0 : 0 < rs.length) (hk : o'.k = 1) (hv : o'.v = z0) (hc : o'.c = 0) (hA : o'.A = o.A) (ht : o'.t.data.toList = encs rs) : Ins o' ∧ lenO o' = rs.length := by
  obtain ⟨e1, e2⟩ := scs_of hs
  have hl := encs_len0 hs
  have hz := size_toList o'.t
  rw [ht] at hz
  refine ⟨⟨Or.inl ⟨hk, hv⟩, size_isEmp (by omega), hc, by rw [ht, e2, hz], by rw [hv]; exact chk_z0, by rw [hA]; exact h.set⟩, ?_⟩
  unfold lenO
  rw [if_pos hk, ht, e1]
theorem ins_head {o : Op5} (h : Ins o) {m : Nat} (h1 : 1 ≤ m) (hm : m < (scs o.t.data.toList).length) : Ins (headO o m) ∧ lenO (headO o m) = m := by
  have := ins_list (o' := headO o m) h (rs := (scs o.t.data.toList).take m) (fun r hr => (valid_text o.t h.utf).1 r (List.mem_of_mem_take hr)) (by rw [List.length_take]; omega) rfl rfl rfl rfl (head_list h.utf m)
  rw [List.length_take] at this
  exact ⟨this.1, by rw [this.2]; omega⟩
theorem ins_tail {o : Op5} (h : Ins o) {m : Nat} (hm : m < (scs o.t.data.toList).length) : Ins (tailO o m) ∧ lenO (tailO o m) = (scs o.t.data.toList).length - m := by
  have := ins_list (o' := tailO o m) h (rs := (scs o.t.data.toList).drop m) (fun r hr => (valid_text o.t h.utf).1 r (List.mem_of_mem_drop hr)) (by rw [List.length_drop]; omega) rfl rfl rfl rfl (tail_list h.utf m)
  rw [List.length_drop] at this
  exact this
theorem head_tail {o : Op5} (h : Ins o) (hk : o.k = 1) (m : Nat) : joinO (headO o m) (tailO o m) = o := by
  have hv : o.v = z0 := by
    rcases h.kind with ⟨_, hv⟩ | ⟨h2, _⟩
    · exact hv
    · omega
  have ht : (headO o m).t ++ (tailO o m).t = o.t := by
    apply ByteArray.ext
    apply Array.ext'
    rw [cat_list, head_list h.utf, tail_list h.utf, ← encs_append, List.take_append_drop]
    exact (valid_text o.t h.utf).2.1.symm
  have hc := h.count
  obtain ⟨k, t, v, c, A⟩ := o
  simp only at hk hv hc
  subst hk hv hc
  show (⟨1, (headO _ m).t ++ (tailO _ m).t, z0, 0, A⟩ : Op5) = _
  rw [ht]
theorem size_head (o : Op5) (m : Nat) : (headO o m).t.size ≤ o.t.size := by show (o.t.extract _ _).size ≤ _; rw [ByteArray.size_extract]; omega
theorem size_tail (o : Op5) (m : Nat) : (tailO o m).t.size ≤ o.t.size := by show (o.t.extract _ _).size ≤ _; rw [ByteArray.size_extract]; omega
theorem fit_head {o : Op5} (h : Fit o) (m : Nat) : Fit (headO o m) := ⟨Nat.le_trans (size_head o m) h.t, by show (0 : Nat) ≤ 1048576; decide, h.A, h.n⟩
theorem fit_tail {o : Op5} (h : Fit o) (m : Nat) : Fit (tailO o m) := ⟨Nat.le_trans (size_tail o m) h.t, by show (0 : Nat) ≤ 1048576; decide, h.A, h.n⟩
theorem cells_cut {o : Op5} (h : Ins o) (hk : o.k = 1) {m : Nat} (h1 : 1 ≤ m) (hm : m < (scs o.t.data.toList).length) : cellsOf o = cellsOf (headO o m) ++ cellsOf (tailO o m) := by
  have := cells_join (ins_head h h1 hm).1 (ins_tail h hm).1 rfl rfl rfl
  rwa [head_tail h hk] at this
theorem lenO_pos {o : Op5} (h : Ins o) : 1 ≤ lenO o := by
  unfold lenO
  split
  · have h0 := isEmp_size h.full
    obtain ⟨_, h2, _⟩ := valid_text o.t h.utf
    rcases Nat.eq_zero_or_pos (scs o.t.data.toList).length with e | e
    · rw [List.eq_nil_of_length_eq_zero e] at h2
      have := size_toList o.t
      rw [h2] at this
      simp only [encs, List.length_nil] at this
      omega
    · exact e
  · exact Nat.le_refl _
theorem lenO_2 {o : Op5} (h : Ins o) (h2 : 2 ≤ lenO o) : o.k = 1 ∧ lenO o = (scs o.t.data.toList).length := by
  unfold lenO at h2 ⊢
  by_cases hk : o.k = 1
  · exact ⟨hk, if_pos hk⟩
  · rw [if_neg hk] at h2; omega
end Go.Proofs.YtgimcloadjjefabGreatDoor

/- Deltas unit by unit: parts and turned parts; documents and their cells. -/
namespace Go.Proofs.YtgimcloadjjefabGreatDoor
open Go Go.RowKit Go.Lib
set_option linter.unusedVariables false

theorem nrm_state : ∀ (X I : List U6) (d : Nat), ∃ (P J : List U6) (e : Nat), ∀ R, nrm I d (X ++ R) = P ++ nrm J e R
  | [], I, d => ⟨[], I, d, fun R => rfl⟩
  | .keep A :: X, I, d => by
    obtain ⟨P, J, e, h⟩ := nrm_state X [] 0
    refine ⟨I ++ (List.replicate d .del ++ .keep A :: P), J, e, fun R => ?_⟩
    show I ++ (List.replicate d .del ++ .keep A :: nrm [] 0 (X ++ R)) = _
    rw [h]; simp
  | .del :: X, I, d => nrm_state X I (d + 1)
  | .ins c :: X, I, d => nrm_state X (I ++ [.ins c]) d
/-- What comes and what goes beside it may be gathered in any order. -/
theorem nrm_swap (X I : List U6) (d : Nat) (l : List C5) (n : Nat) (R : List U6) :
    nrm I d (X ++ (List.replicate n .del ++ (l.map .ins ++ R))) = nrm I d (X ++ (l.map .ins ++ (List.replicate n .del ++ R))) := by
  obtain ⟨P, J, e, h⟩ := nrm_state X I d
  rw [h, h, nrm_del, nrm_ins, nrm_ins, nrm_del]
/-- Operations that are the same but for an insert and a delete that are turned. -/
theorem canon_swap {X R : List Op5} {i o : Op5} (hX : ∀ x ∈ X, Wel x) (hR : ∀ x ∈ R, Wel x) (hi : Wel i) (ho : Wel o) (ki : i.k = 1 ∨ i.k = 2) (ko : o.k = 4) :
    canonL (X ++ o :: i :: R) = canonL (X ++ i :: o :: R) := by
  have w1 : ∀ x ∈ X ++ o :: i :: R, Wel x := fun x hx => by
    rcases List.mem_append.1 hx with h | h
    · exact hX x h
    · rcases List.mem_cons.1 h with rfl | h
      · exact ho
      · rcases List.mem_cons.1 h with rfl | h
        · exact hi
        · exact hR x h
  have w2 : ∀ x ∈ X ++ i :: o :: R, Wel x := fun x hx => by
    rcases List.mem_append.1 hx with h | h
    · exact hX x h
    · rcases List.mem_cons.1 h with rfl | h
      · exact hi
      · rcases List.mem_cons.1 h with rfl | h
        · exact ho
        · exact hR x h
  obtain ⟨t1, t2, t3, t4⟩ := canon_spec w2
  refine canon_unique w1 t1 t2 ?_
  rw [t4]
  congr 1
  have e1 : units (X ++ o :: i :: R) = units X ++ (List.replicate o.c.toNat .del ++ ((cellsOf i).map .ins ++ units R)) := by
    rw [units_append, ← unitsO_4 ko, ← unitsO_1 ki]; rfl
  have e2 : units (X ++ i :: o :: R) = units X ++ ((cellsOf i).map .ins ++ (List.replicate o.c.toNat .del ++ units R)) := by
    rw [units_append, ← unitsO_4 ko, ← unitsO_1 ki]; rfl
  rw [e1, e2, nrm_swap]
/-- Parts of a canonical list make it again. -/
theorem canon_parts {F P : List Op5} (hF : ∀ o ∈ F, Wel o) (hc : chainB F = true) (hl : lastP F = true) (hP : ∀ o ∈ P, Wel o) (e : units P = units F) : canonL P = F :=
  canon_unique hP hF hc (by rw [e, nrm_chain [] hF hc, List.nil_append, strip_can hF hl])

/-- A cell that may be in a document. -/
def GoodC (c : C5) : Prop := (c.1 = -1 ∧ c.2.1.toList.isEmpty = false ∧ c.2.1.size ≤ 64 ∧ brk c.2.1.data.toList = c.2.1.size ∧ chkP c.2.2.1 = 0 ∨ ∃ r : Nat, c.1 = (r : Int) ∧ scal r ∧ c.2.1 = ⟨#[]⟩ ∧ c.2.2.1 = z0) ∧ listE false none c.2.2.2 = 0
/-- The operation that inserts a cell. -/
def opOf (c : C5) : Op5 := if c.1 = -1 then ⟨2, c.2.1, c.2.2.1, 0, c.2.2.2⟩ else ⟨1, ⟨(enc c.1.toNat).toArray⟩, z0, 0, c.2.2.2⟩
theorem opOf_good {c : C5} (h : GoodC c) : Wel (opOf c) ∧ unitsO (opOf c) = [.ins c] ∧ ((opOf c).k = 1 ∨ (opOf c).k = 2) := by
  obtain ⟨h, hs⟩ := h
  obtain ⟨a, t, v, A⟩ := c
  simp only at h hs
  rcases h with ⟨rfl, h1, h2, h3, h4⟩ | ⟨r, rfl, h1, rfl, rfl⟩
  · have e : opOf (-1, t, v, A) = ⟨2, t, v, 0, A⟩ := rfl
    rw [e]
    refine ⟨Or.inl ⟨⟨Or.inr ⟨rfl, h2⟩, h1, rfl, h3, h4, hs⟩, Or.inr rfl⟩, ?_, Or.inr rfl⟩
    rw [unitsO_1 (Or.inr rfl), cells2 rfl]
  · have e : opOf ((r : Int), ⟨#[]⟩, z0, A) = ⟨1, ⟨(enc r).toArray⟩, z0, 0, A⟩ := by
      unfold opOf
      rw [if_neg (by simp only; omega)]
      simp
    rw [e]
    obtain ⟨s1, s2⟩ := scs_of (rs := [r]) (fun x hx => by rw [List.mem_singleton.1 hx]; exact h1)
    have e2 : encs [r] = enc r := by simp [encs]
    rw [e2] at s1 s2
    have hp := enc_pos h1
    have hsz : (⟨(enc r).toArray⟩ : ByteArray).size = (enc r).length := by simp [ByteArray.size]
    refine ⟨Or.inl ⟨⟨Or.inl ⟨rfl, rfl⟩, size_isEmp (by rw [hsz]; exact hp.1), rfl, ?_, chk_z0, hs⟩, Or.inl rfl⟩, ?_, Or.inl rfl⟩
    · show brk (enc r) = _
      rw [s2, hsz]
    · rw [unitsO_1 (Or.inl rfl)]
      unfold cellsOf
      rw [if_pos rfl]
      show (mkC A (scs (enc r))).map U6.ins = _
      rw [s1]; rfl
/-- A list of inserts alone. -/
def DocL (E : List Op5) : Prop := ∀ o ∈ E, o.k = 1 ∨ o.k = 2
/-- A document's cells. -/
def cellsL (E : List Op5) : List C5 := E.flatMap cellsOf
theorem units_doc : ∀ {E : List Op5}, DocL E → units E = (cellsL E).map .ins
  | [], _ => rfl
  | o :: r, h => by
    show unitsO o ++ units r = _
    rw [unitsO_1 (h o (List.mem_cons_self ..)), units_doc fun x hx => h x (List.mem_cons_of_mem _ hx)]
    show _ = ((cellsOf o ++ cellsL r).map U6.ins)
    rw [List.map_append]
theorem units_ops : ∀ {cs : List C5}, (∀ c ∈ cs, GoodC c) → units (cs.map opOf) = cs.map .ins
  | [], _ => rfl
  | c :: cs, h => by
    show unitsO (opOf c) ++ units (cs.map opOf) = _
    rw [(opOf_good (h c (List.mem_cons_self ..))).2.1, units_ops fun x hx => h x (List.mem_cons_of_mem _ hx)]; rfl
/-- The document of cells. -/
def docOf (cs : List C5) : List Op5 := canonL (cs.map opOf)
theorem strip_ins : ∀ (l : List C5), stripU (l.map U6.ins) = l.map U6.ins := fun l => by
  rcases List.eq_nil_or_concat l with rfl | ⟨m, c, rfl⟩
  · rfl
  · rw [List.concat_eq_append, List.map_append]
    exact strip_end rfl
theorem nrm_ins0 (l : List C5) : nrm [] 0 (l.map .ins) = l.map .ins := by
  have := nrm_ins l [] 0 []
  rw [List.append_nil] at this
  rw [this]; simp [nrm]
theorem doc_units {cs : List C5} (h : ∀ c ∈ cs, GoodC c) : (∀ o ∈ docOf cs, Wel o) ∧ chainB (docOf cs) = true ∧ lastP (docOf cs) = true ∧ units (docOf cs) = cs.map .ins := by
  have hw : ∀ o ∈ cs.map opOf, Wel o := fun o ho => by
    obtain ⟨c, hc, rfl⟩ := List.mem_map.1 ho
    exact (opOf_good (h c hc)).1
  obtain ⟨t1, t2, t3, t4⟩ := canon_spec hw
  exact ⟨t1, t2, t3, by rw [show units (docOf cs) = _ from t4, units_ops h, nrm_ins0, strip_ins]⟩
theorem ins_map_inj {a b : List C5} (h : a.map U6.ins = b.map U6.ins) : a = b := (List.map_inj_right fun x y h => U6.ins.inj h).1 h
theorem wel_doc {E : List Op5} (h : ∀ o ∈ E, Wel o) {cs : List C5} (e : units E = cs.map .ins) : DocL E := fun o ho => by
  have hw := h o ho
  obtain ⟨u, us, hu⟩ := List.exists_cons_of_ne_nil (unitsO_ne hw)
  have m : u ∈ unitsO o := by rw [hu]; exact List.mem_cons_self ..
  have mem : ∀ {E : List Op5} {o : Op5} {u : U6}, o ∈ E → u ∈ unitsO o → u ∈ units E := fun {E} => by
    induction E with
    | nil => intro o u h; cases h
    | cons x r ih =>
      intro o u h hu
      show u ∈ unitsO x ++ units r
      rcases List.mem_cons.1 h with rfl | h
      · exact List.mem_append_left _ hu
      · exact List.mem_append_right _ (ih h hu)
  have := mem ho m
  rw [e] at this
  obtain ⟨c, _, rfl⟩ := List.mem_map.1 this
  rcases unit_cases hw m with ⟨hk, _⟩ | ⟨hk, _⟩ | ⟨_, h⟩ | ⟨_, h⟩
  · exact Or.inl hk
  · exact Or.inr hk
  · cases h
  · cases h
/-- **Cells make a document, and its cells are those.** -/
theorem cells_doc {cs : List C5} (h : ∀ c ∈ cs, GoodC c) : DocL (docOf cs) ∧ cellsL (docOf cs) = cs := by
  obtain ⟨t1, _, _, t4⟩ := doc_units h
  have hd := wel_doc t1 t4
  exact ⟨hd, ins_map_inj (by rw [← units_doc hd, t4])⟩
theorem good_cells {E : List Op5} (h : ∀ o ∈ E, Wel o) (hd : DocL E) : ∀ c ∈ cellsL E, GoodC c := fun c hc => by
  obtain ⟨o, ho, hc⟩ := List.mem_flatMap.1 hc
  have hw := h o ho
  obtain ⟨i, _⟩ := hw.resolve_right (by have := hd o ho; rintro (h | h) <;> omega)
  rcases hd o ho with hk | hk
  · unfold cellsOf at hc
    rw [if_pos hk, mkC] at hc
    obtain ⟨r, hr, rfl⟩ := List.mem_map.1 hc
    obtain ⟨_, hsc, _, _⟩ := text_cases o.t.data.toList
    exact ⟨Or.inr ⟨r, rfl, hsc r hr, rfl, rfl⟩, i.set⟩
  · unfold cellsOf at hc
    rw [if_neg (by omega)] at hc
    rw [List.mem_singleton.1 hc]
    exact ⟨Or.inl ⟨rfl, i.full, (i.kind.resolve_left (by omega)).2, i.utf, i.val⟩, i.set⟩
/-- **A canonical document is that of its cells.** -/
theorem doc_cells {E : List Op5} (h : ∀ o ∈ E, Wel o) (hc : chainB E = true) (hd : DocL E) : docOf (cellsL E) = E := by
  obtain ⟨t1, t2, _, t4⟩ := doc_units (good_cells h hd)
  exact units_inj t1 h t2 hc (by rw [t4, units_doc hd])
end Go.Proofs.YtgimcloadjjefabGreatDoor

/- A delta gone through in pieces, purely. -/
namespace Go.Proofs.YtgimcloadjjefabGreatDoor
open Go Go.RowKit Go.Lib
set_option linter.unusedVariables false

/-- The first n cells of an operation that has more, and the others. -/
def hd7 (o : Op5) (n : Int) : Op5 := if o.k = 1 then headO o n.toNat else ⟨o.k, o.t, o.v, n, o.A⟩
def tl7 (o : Op5) (n : Int) : Op5 := if o.k = 1 then tailO o n.toNat else ⟨o.k, o.t, o.v, o.c - n, o.A⟩
/-- A plain retain. -/
def pl7 (n : Int) : Op5 := ⟨3, ⟨#[]⟩, z0, n, []⟩
/-- A piece of at most n cells, and what is left. -/
def nx7 : List Op5 → Int → Op5 × List Op5
  | [], n => (pl7 (min n 1099511627776), [])
  | o :: r, n => if len5 o ≤ n then (o, r) else (hd7 o n, tl7 o n :: r)
def left7 : List Op5 → Int
  | [] => 1099511627776
  | o :: _ => len5 o
def kind7 : List Op5 → Int
  | [] => 3
  | o :: _ => o.k
theorem nx_nil (n : Int) : nx7 [] n = (pl7 (min n 1099511627776), []) := rfl
theorem nx_all {o : Op5} {r : List Op5} {n : Int} (h : len5 o ≤ n) : nx7 (o :: r) n = (o, r) := if_pos h
theorem nx_part {o : Op5} {r : List Op5} {n : Int} (h : ¬ len5 o ≤ n) : nx7 (o :: r) n = (hd7 o n, tl7 o n :: r) := if_neg h
theorem pl_good {n : Int} (h1 : 1 ≤ n) (h2 : n ≤ 1099511627776) : opE (pl7 n) = 0 ∧ len5 (pl7 n) = n := by
  have h : cntE (pl7 n) = 0 := cnt_iff.2 ⟨by kernel_rfl, rfl, h1, h2⟩
  refine ⟨?_, by unfold len5; rw [if_neg (by show ¬ ((3 : Int) = 1 ∨ (3 : Int) = 2); decide)]; rfl⟩
  unfold opE
  rw [if_neg (by show ¬ ((3 : Int) = 1 ∨ (3 : Int) = 2); decide), if_pos (show (pl7 n).k = 3 from rfl), if_neg (by rw [h]; decide)]
  rfl

/-- What a cut operation's two pieces are. -/
structure Cut7 (o : Op5) (n : Int) : Prop where
  nk : o.k ≠ 2
  h0 : opE (hd7 o n) = 0
  t0 : opE (tl7 o n) = 0
  hk : (hd7 o n).k = o.k
  tk : (tl7 o n).k = o.k
  hA : (hd7 o n).A = o.A
  tA : (tl7 o n).A = o.A
  hl : len5 (hd7 o n) = n
  tl : len5 (tl7 o n) = len5 o - n
  hz : (hd7 o n).t.size ≤ o.t.size
  tz : (tl7 o n).t.size ≤ o.t.size
  hv : (hd7 o n).v = o.v
  tv : (tl7 o n).v = o.v
  un : unitsO o = unitsO (hd7 o n) ++ unitsO (tl7 o n)
theorem opE_12 {o : Op5} (h : Ins o) (hk : o.k = 1 ∨ o.k = 2) : opE o = 0 := by
  unfold opE; rw [if_pos hk]; exact h.zero
theorem opE_3 {o : Op5} (h : Cnt o) (hA : listE true none o.A = 0) (hk : o.k = 3) : opE o = 0 := by
  unfold opE
  rw [if_neg (by omega), if_pos hk, if_neg (by rw [cnt_iff.2 h]; decide)]
  exact hA
theorem opE_4 {o : Op5} (h : Cnt o) (hA : o.A = []) (hk : o.k = 4) : opE o = 0 := by
  unfold opE
  rw [if_neg (by omega), if_neg (by omega), if_pos hk, if_neg (by rw [hA]; simp)]
  exact cnt_iff.2 h
theorem cut7 {o : Op5} {n : Int} (h : opE o = 0) (h1 : 1 ≤ n) (h2 : n < len5 o) : Cut7 o n := by
  rcases op_good h with ⟨hi, hk⟩ | ⟨hc, hA, hk⟩ | ⟨hc, hA, hk⟩
  · have e : len5 o = (lenO o : Int) := by unfold len5; rw [if_pos hk]
    rw [e] at h2
    obtain ⟨k1, kl⟩ := lenO_2 hi (by omega)
    obtain ⟨m, rfl⟩ : ∃ m : Nat, n = m := ⟨n.toNat, by omega⟩
    have hm : m < (scs o.t.data.toList).length := by omega
    have e1 : hd7 o m = headO o m := by unfold hd7; rw [if_pos k1]; rfl
    have e2 : tl7 o m = tailO o m := by unfold tl7; rw [if_pos k1]; rfl
    obtain ⟨a1, a2⟩ := ins_head hi (m := m) (by omega) hm
    obtain ⟨b1, b2⟩ := ins_tail hi (m := m) hm
    have hv : o.v = z0 := by
      rcases hi.kind with ⟨_, hv⟩ | ⟨h2, _⟩
      · exact hv
      · omega
    have hc := cells_cut hi k1 (m := m) (by omega) hm
    refine ⟨by omega, ?_, ?_, ?_, ?_, ?_, ?_, ?_, ?_, ?_, ?_, ?_, ?_, ?_⟩
    · rw [e1]; exact opE_12 a1 (.inl rfl)
    · rw [e2]; exact opE_12 b1 (.inl rfl)
    · rw [e1, k1]; rfl
    · rw [e2, k1]; rfl
    · rw [e1]; rfl
    · rw [e2]; rfl
    · rw [e1]; unfold len5; rw [if_pos (show (headO o m).k = 1 ∨ _ from .inl rfl), a2]
    · rw [e2, e]; unfold len5; rw [if_pos (show (tailO o m).k = 1 ∨ _ from .inl rfl), b2, kl]; omega
    · rw [e1]; exact size_head o m
    · rw [e2]; exact size_tail o m
    · rw [e1, hv]; rfl
    · rw [e2, hv]; rfl
    · rw [e1, e2, unitsO_1 (.inl k1), unitsO_1 (o := headO o m) (.inl rfl), unitsO_1 (o := tailO o m) (.inl rfl), hc, List.map_append]
  · have e : len5 o = o.c := by unfold len5; rw [if_neg (by omega)]
    rw [e] at h2
    have hh := hc.hi
    have e1 : hd7 o n = ⟨o.k, o.t, o.v, n, o.A⟩ := if_neg (by omega)
    have e2 : tl7 o n = ⟨o.k, o.t, o.v, o.c - n, o.A⟩ := if_neg (by omega)
    have c1 : Cnt (hd7 o n) := by rw [e1]; exact ⟨hc.text, hc.val, h1, by show n ≤ _; omega⟩
    have c2 : Cnt (tl7 o n) := by rw [e2]; exact ⟨hc.text, hc.val, by show 1 ≤ o.c - n; omega, by show o.c - n ≤ _; omega⟩
    refine ⟨by omega, opE_3 c1 (by rw [e1]; exact hA) (by rw [e1]; exact hk), opE_3 c2 (by rw [e2]; exact hA) (by rw [e2]; exact hk), by rw [e1], by rw [e2], by rw [e1], by rw [e2], ?_, ?_, by rw [e1]; exact Nat.le_refl _, by rw [e2]; exact Nat.le_refl _, by rw [e1], by rw [e2], ?_⟩
    · rw [e1]; unfold len5; rw [if_neg (by show ¬ (o.k = 1 ∨ o.k = 2); omega)]
    · rw [e2, e]; unfold len5; rw [if_neg (by show ¬ (o.k = 1 ∨ o.k = 2); omega)]
    · rw [e1, e2, unitsO_3 hk, unitsO_3 (o := ⟨o.k, o.t, o.v, n, o.A⟩) hk, unitsO_3 (o := ⟨o.k, o.t, o.v, o.c - n, o.A⟩) hk]
      show List.replicate o.c.toNat _ = List.replicate n.toNat _ ++ List.replicate (o.c - n).toNat _
      rw [List.replicate_append_replicate]
      congr 1; omega
  · have e : len5 o = o.c := by unfold len5; rw [if_neg (by omega)]
    rw [e] at h2
    have hh := hc.hi
    have e1 : hd7 o n = ⟨o.k, o.t, o.v, n, o.A⟩ := if_neg (by omega)
    have e2 : tl7 o n = ⟨o.k, o.t, o.v, o.c - n, o.A⟩ := if_neg (by omega)
    have c1 : Cnt (hd7 o n) := by rw [e1]; exact ⟨hc.text, hc.val, h1, by show n ≤ _; omega⟩
    have c2 : Cnt (tl7 o n) := by rw [e2]; exact ⟨hc.text, hc.val, by show 1 ≤ o.c - n; omega, by show o.c - n ≤ _; omega⟩
    refine ⟨by omega, opE_4 c1 (by rw [e1]; exact hA) (by rw [e1]; exact hk), opE_4 c2 (by rw [e2]; exact hA) (by rw [e2]; exact hk), by rw [e1], by rw [e2], by rw [e1], by rw [e2], ?_, ?_, by rw [e1]; exact Nat.le_refl _, by rw [e2]; exact Nat.le_refl _, by rw [e1], by rw [e2], ?_⟩
    · rw [e1]; unfold len5; rw [if_neg (by show ¬ (o.k = 1 ∨ o.k = 2); omega)]
    · rw [e2, e]; unfold len5; rw [if_neg (by show ¬ (o.k = 1 ∨ o.k = 2); omega)]
    · rw [e1, e2, unitsO_4 hk, unitsO_4 (o := ⟨o.k, o.t, o.v, n, o.A⟩) hk, unitsO_4 (o := ⟨o.k, o.t, o.v, o.c - n, o.A⟩) hk]
      show List.replicate o.c.toNat _ = List.replicate n.toNat _ ++ List.replicate (o.c - n).toNat _
      rw [List.replicate_append_replicate]
      congr 1; omega
theorem len5_pos {o : Op5} (h : opE o = 0) : 1 ≤ len5 o := by
  rcases op_good h with ⟨hi, hk⟩ | ⟨hc, hA, hk⟩ | ⟨hc, hA, hk⟩
  · unfold len5; rw [if_pos hk]; have := lenO_pos hi; omega
  · unfold len5; rw [if_neg (by omega)]; exact hc.lo
  · unfold len5; rw [if_neg (by omega)]; exact hc.lo

/-- What is left of a canonical delta is canonical, and fits as it did. -/
structure Rst (E : List Op5) (N T K : Nat) : Prop where
  good : ∀ o ∈ E, opE o = 0
  fit : ∀ o ∈ E, FitA o
  txt : txtS E ≤ T
  attr : ∀ o ∈ E, o.A.length ≤ K
  len : E.length ≤ N
  chain : chainB E = true
  last : lastP E = true
  base : sumB E ≤ 1099511627776
  res : sumR E ≤ 1099511627776
theorem Rst.size {E : List Op5} {N T K : Nat} (h : Rst E N T K) : ∀ o ∈ E, o.t.size ≤ T := fun o ho => Nat.le_trans (txtS_mem ho) h.txt
theorem txtS_cons (o : Op5) (r : List Op5) : txtS (o :: r) = o.t.size + txtS r := by unfold txtS; rfl
theorem Rst.okE {E : List Op5} {N T K : Nat} (h : Rst E N T K) (hT : T ≤ 8388608) (hN : N ≤ 4194304) : OkE E :=
  ⟨h.good, h.fit, Nat.le_trans h.txt hT, Nat.le_trans h.len hN, h.base, h.res⟩
theorem Rst.nil (N T K : Nat) : Rst [] N T K := ⟨fun _ h => (by cases h), fun _ h => (by cases h), Nat.zero_le _, fun _ h => (by cases h), Nat.zero_le _, rfl, rfl, by show (0 : Int) ≤ _; omega, by show (0 : Int) ≤ _; omega⟩
theorem lastP_cons {x y : Op5} {r : List Op5} : lastP (x :: y :: r) = lastP (y :: r) := by
  unfold lastP
  rw [List.getLast?_cons_cons]
theorem Rst.tail {x : Op5} {r : List Op5} {N T K : Nat} (h : Rst (x :: r) N T K) : Rst r N T K := by
  have hx := wel_of (h.good x (List.mem_cons_self ..))
  refine ⟨fun o ho => h.good o (List.mem_cons_of_mem _ ho), fun o ho => h.fit o (List.mem_cons_of_mem _ ho), by have := h.txt; rw [txtS_cons] at this; omega, fun o ho => h.attr o (List.mem_cons_of_mem _ ho), by have := h.len; simp at this; omega, chain_tail h.chain, ?_, by have := h.base; rw [sumB_cons] at this; have := base_nn hx; omega, by have := h.res; rw [sumR_cons] at this; have := res_nn hx; omega⟩
  cases r with
  | nil => rfl
  | cons y r => rw [← lastP_cons]; exact h.last
theorem apart_same {x x' y : Op5} (hk : x'.k = x.k) (hA : x'.A = x.A) : apartB x' y = apartB x y := by unfold apartB; rw [hk, hA]
theorem plain_same {x x' : Op5} (hk : x'.k = x.k) (hA : x'.A = x.A) : plainR x' = plainR x := by unfold plainR; rw [hk, hA]
theorem Rst.part {x : Op5} {r : List Op5} {N T K : Nat} (h : Rst (x :: r) N T K) {n : Int} (h1 : 1 ≤ n) (h2 : ¬ len5 x ≤ n) : Rst (tl7 x n :: r) N T K := by
  have hx := h.good x (List.mem_cons_self ..)
  have c := cut7 hx h1 (by omega)
  have fx := h.fit x (List.mem_cons_self ..)
  have eb : baseO (tl7 x n) ≤ baseO x := by unfold baseO; rw [c.tk, c.tl]; split <;> omega
  have er : resO (tl7 x n) ≤ resO x := by unfold resO; rw [c.tk, c.tl]; split <;> omega
  refine ⟨fun o ho => ?_, fun o ho => ?_, ?_, fun o ho => ?_, by have := h.len; simp at this ⊢; omega, ?_, ?_, by have := h.base; rw [sumB_cons] at this ⊢; omega, by have := h.res; rw [sumR_cons] at this ⊢; omega⟩
  · rcases List.mem_cons.1 ho with rfl | ho
    · exact c.t0
    · exact h.good o (List.mem_cons_of_mem _ ho)
  · rcases List.mem_cons.1 ho with rfl | ho
    · exact ⟨by rw [c.tv]; exact fx.v, by rw [c.tA]; exact fx.A, by rw [c.tA]; exact fx.n⟩
    · exact h.fit o (List.mem_cons_of_mem _ ho)
  · have := h.txt
    have := c.tz
    rw [txtS_cons] at *
    omega
  · rcases List.mem_cons.1 ho with rfl | ho
    · rw [c.tA]; exact h.attr x (List.mem_cons_self ..)
    · exact h.attr o (List.mem_cons_of_mem _ ho)
  · cases r with
    | nil => rfl
    | cons y r =>
      have := h.chain
      unfold chainB at this ⊢
      rw [apart_same c.tk c.tA]; exact this
  · cases r with
    | nil =>
      have := h.last
      unfold lastP at this ⊢
      simp only [List.getLast?_singleton] at this ⊢
      rw [plain_same c.tk c.tA]; exact this
    | cons y r => rw [lastP_cons]; rw [← lastP_cons (x := x)]; exact h.last
theorem Rst.next {R : List Op5} {N T K : Nat} (h : Rst R N T K) {n : Int} (h1 : 1 ≤ n) : Rst (nx7 R n).2 N T K := by
  cases R with
  | nil => exact h
  | cons x r =>
    by_cases hn : len5 x ≤ n
    · rw [nx_all hn]; exact h.tail
    · rw [nx_part hn]; exact h.part h1 hn
theorem Rst.fitOne {x : Op5} {r : List Op5} {N T K : Nat} (h : Rst (x :: r) N T K) {n : Int} (h1 : 1 ≤ n) (h2 : ¬ len5 x ≤ n) : FitA (hd7 x n) := by
  have c := cut7 (h.good x (List.mem_cons_self ..)) h1 (by omega)
  have fx := h.fit x (List.mem_cons_self ..)
  exact ⟨by rw [c.hv]; exact fx.v, by rw [c.hA]; exact fx.A, by rw [c.hA]; exact fx.n⟩
/-- A piece that is taken is good, and has as many cells as asked for, or as there are. -/
theorem Rst.piece {R : List Op5} {N T K : Nat} (h : Rst R N T K) {n : Int} (h1 : 1 ≤ n) : opE (nx7 R n).1 = 0 ∧ FitA (nx7 R n).1 ∧ (nx7 R n).1.t.size ≤ T ∧ (nx7 R n).1.A.length ≤ K ∧ len5 (nx7 R n).1 = min n (left7 R) ∧ (nx7 R n).1.k = kind7 R := by
  cases R with
  | nil =>
    obtain ⟨p1, p2⟩ := pl_good (n := min n 1099511627776) (by omega) (by omega)
    exact ⟨p1, ⟨Nat.zero_le _, fun _ h => (by cases h), Nat.zero_le _⟩, Nat.zero_le _, Nat.zero_le _, p2, rfl⟩
  | cons x r =>
    have hx := h.good x (List.mem_cons_self ..)
    by_cases hn : len5 x ≤ n
    · rw [nx_all hn]
      exact ⟨hx, h.fit x (List.mem_cons_self ..), h.size x (List.mem_cons_self ..), h.attr x (List.mem_cons_self ..), by show len5 x = min n (len5 x); omega, rfl⟩
    · rw [nx_part hn]
      have c := cut7 hx h1 (by omega)
      exact ⟨c.h0, h.fitOne h1 hn, Nat.le_trans c.hz (h.size x (List.mem_cons_self ..)), by rw [c.hA]; exact h.attr x (List.mem_cons_self ..), by rw [c.hl]; show n = min n (len5 x); omega, c.hk⟩
/-- What has been taken and what is left have the units that were. -/
theorem Rst.units {R : List Op5} {N T K : Nat} (h : Rst R N T K) {n : Int} (h1 : 1 ≤ n) (h0 : R ≠ []) : units R = unitsO (nx7 R n).1 ++ units (nx7 R n).2 := by
  cases R with
  | nil => exact absurd rfl h0
  | cons x r =>
    by_cases hn : len5 x ≤ n
    · rw [nx_all hn]; rfl
    · rw [nx_part hn]
      have c := cut7 (h.good x (List.mem_cons_self ..)) h1 (by omega)
      show unitsO x ++ _ = unitsO (hd7 x n) ++ (unitsO (tl7 x n) ++ _)
      rw [c.un, List.append_assoc]
theorem Rst.wel {R : List Op5} {N T K : Nat} (h : Rst R N T K) : ∀ o ∈ R, Wel o := fun o ho => wel_of (h.good o ho)
theorem Rst.canon {R : List Op5} {N T K : Nat} (h : Rst R N T K) : canonL R = R := canon_self h.wel h.chain h.last
end Go.Proofs.YtgimcloadjjefabGreatDoor

/- A loop over a function whose function writes memory of its own between two rounds, and asks for rounds at what it has laid. -/
namespace Go.Proofs.YtgimcloadjjefabGreatDoor
open Go Go.RowKit
set_option linter.unusedVariables false

/-- What has turned is no cells, and lies at B or beyond. -/
structure Bk7 (B : Nat) (A A' : World) : Prop where
  os : A'.os = A.os
  tape : A'.tape = A.tape
  output : A'.output = A.output
  size : A.heap.size ≤ A'.heap.size
  kept : ∀ (k : Nat) (o : Obj), A.heap[k]? = some o → (k < B ∨ o.isCells = true) → A'.heap[k]? = some o
/-- What has turned is cells of certain types, at B or beyond. -/
structure It7 (T : TypeId → Prop) (B : Nat) (A A' : World) : Prop where
  os : A'.os = A.os
  tape : A'.tape = A.tape
  output : A'.output = A.output
  size : A.heap.size ≤ A'.heap.size
  kept : ∀ (k : Nat) (o : Obj), A.heap[k]? = some o → (k < B ∨ ¬ ∃ cs t fz, o = .cells cs t fz ∧ T t) → A'.heap[k]? = some o
/-- Cells of other types, and what lies below B, are as they were. -/
structure Tr7 (T : TypeId → Prop) (B : Nat) (A A' : World) : Prop where
  os : A'.os = A.os
  tape : A'.tape = A.tape
  output : A'.output = A.output
  size : A.heap.size ≤ A'.heap.size
  kept : ∀ (k : Nat) (o : Obj), A.heap[k]? = some o → (k < B ∨ ∃ cs t fz, o = .cells cs t fz ∧ ¬ T t) → A'.heap[k]? = some o
theorem Bk7.tr {T : TypeId → Prop} {B : Nat} {A A' : World} (h : Bk7 B A A') : Tr7 T B A A' :=
  ⟨h.os, h.tape, h.output, h.size, fun k o hk ho => h.kept k o hk (ho.imp id (fun ⟨cs, t, fz, e, _⟩ => by rw [e]; rfl))⟩
theorem It7.tr {T : TypeId → Prop} {B B' : Nat} {A A' : World} (h : It7 T B A A') (hB : B' ≤ B) : Tr7 T B' A A' :=
  ⟨h.os, h.tape, h.output, h.size, fun k o hk ho => h.kept k o hk (ho.elim (fun q => .inl (by omega)) (fun ⟨cs, t, fz, e, hn⟩ => .inr (fun ⟨cs', t', fz', e', ht⟩ => by rw [e] at e'; cases e'; exact hn ht)))⟩
theorem Bk7.refl (B : Nat) (A : World) : Bk7 B A A := ⟨rfl, rfl, rfl, Nat.le_refl _, fun _ _ h _ => h⟩
theorem Bk7.trans {B : Nat} {X Y Z : World} (h : Bk7 B X Y) (k : Bk7 B Y Z) : Bk7 B X Z :=
  ⟨k.os.trans h.os, k.tape.trans h.tape, k.output.trans h.output, Nat.le_trans h.size k.size, fun i o hi ho => k.kept i o (h.kept i o hi ho) ho⟩
theorem Tr7.refl (T : TypeId → Prop) (B : Nat) (A : World) : Tr7 T B A A := ⟨rfl, rfl, rfl, Nat.le_refl _, fun _ _ h _ => h⟩
theorem Tr7.trans {T : TypeId → Prop} {B : Nat} {X Y Z : World} (h : Tr7 T B X Y) (k : Tr7 T B Y Z) : Tr7 T B X Z :=
  ⟨k.os.trans h.os, k.tape.trans h.tape, k.output.trans h.output, Nat.le_trans h.size k.size, fun i o hi ho => k.kept i o (h.kept i o hi ho) ho⟩
theorem It7.refl (T : TypeId → Prop) (B : Nat) (A : World) : It7 T B A A := ⟨rfl, rfl, rfl, Nat.le_refl _, fun _ _ h _ => h⟩
theorem It7.trans {T : TypeId → Prop} {B : Nat} {X Y Z : World} (h : It7 T B X Y) (k : It7 T B Y Z) : It7 T B X Z :=
  ⟨k.os.trans h.os, k.tape.trans h.tape, k.output.trans h.output, Nat.le_trans h.size k.size, fun i o hi ho => k.kept i o (h.kept i o hi ho) ho⟩
theorem Bk7.put {B l : Nat} {W : World} {o : Obj} (o' : Obj) (hB : B ≤ l) (hl : W.heap[l]? = some o) (ho : o.isCells = false) : Bk7 B W (W.putObj l o') :=
  ⟨rfl, rfl, rfl, by simp, fun k x hk hx => by
    have : k ≠ l := fun e => by
      subst e; rw [hl] at hk; cases hk
      rcases hx with hx | hx
      · omega
      · simp [ho] at hx
    exact (World.putObj_heap_other this).trans hk⟩
theorem Bk7.alloc (B : Nat) (W : World) (o : Obj) : Bk7 B W (W.alloc o) :=
  ⟨rfl, rfl, rfl, by simp, fun k x hk _ => (Below.heap_alloc _ _ _ (Array.getElem?_eq_some_iff.1 hk).1).trans hk⟩
theorem Tr7.of_below {T : TypeId → Prop} {B : Nat} {A A' : World} (h : Below A.heap.size A A') : Tr7 T B A A' :=
  ⟨h.os, h.tape, h.output, h.size, fun k o hk _ => (h.block k (Array.getElem?_eq_some_iff.1 hk).1).trans hk⟩
theorem It7.of_below {T : TypeId → Prop} {B : Nat} {A A' : World} (h : Below A.heap.size A A') : It7 T B A A' :=
  ⟨h.os, h.tape, h.output, h.size, fun k o hk _ => (h.block k (Array.getElem?_eq_some_iff.1 hk).1).trans hk⟩
theorem Tr7.below {T : TypeId → Prop} {B : Nat} {A A' : World} (h : Tr7 T B A A') (hB : B ≤ A.heap.size) : Below B A A' :=
  ⟨h.os, h.tape, h.output, h.size, fun k hk => by
    have hl : k < A.heap.size := by omega
    rw [h.kept k A.heap[k] (Array.getElem?_eq_getElem hl) (.inl hk), Array.getElem?_eq_getElem hl]⟩

/-- The contract of a function to be ranged over: it asks for a round at x behind pre where G holds; the round keeps Kp. -/
def SeqG {α : Type} (F : Fence) (n : Nat) (P : Program) (g : Nat) (lb : Array Value) (encs : α → Array Value) (T : TypeId → Prop)
    (G : List α → α → World → Prop) (Kp : List α → α → World → World → Prop) (S : List α → Prop) (w0 : World) : Prop :=
  ∀ (l : Nat) (J Jx : List α → World → Prop) (W : World), Below w0.heap.size w0 W →
    (∀ s A A', J s A → It7 T W.heap.size A A' → J s A') → (∀ s A A', Jx s A → It7 T W.heap.size A A' → Jx s A') →
    (∀ pre x W1, J pre W1 → G pre x W1 → YieldAt F (n - 1) P l (encs x) W1 fun e W' =>
      (e = .returned (.bool true) ∧ J (pre ++ [x]) W' ∧ Kp pre x W1 W') ∨ (e = .returned (.bool false) ∧ Jx (pre ++ [x]) W')) →
    J [] W →
    CallsIn F n P g (#[.func (.yield l) #[] #[]] ++ lb) W fun e W' => (∃ v, e = .returned v) ∧ ((∃ xs, S xs ∧ J xs W') ∨ (∃ pre, Jx pre W'))

/-- How a round's body may be left. -/
def gPost {α : Type} (B : Nat) (Kp : List α → α → World → World → Prop) (I : List α → World → Prop) (Ix : Code → List α → World → Prop) (pre : List α) (x : α) (W : World) : Exit → Act → World → Prop
  | .normal, _, W' => KeepsFrom B W W' ∧ Kp pre x W W' ∧ I (pre ++ [x]) W'
  | .ret, _, W' => KeepsFrom B W W' ∧ Ix .ret (pre ++ [x]) W'
  | .exit id, _, W' => KeepsFrom B W W' ∧ Ix (.exit id) (pre ++ [x]) W'
  | .goto t, _, W' => KeepsFrom B W W' ∧ Ix (.goto t) (pre ++ [x]) W'
  | .panic _, _, _ => False
  | .outgrown, _, _ => False

variable {F : Fence} {n : Nat} {P : Program}

theorem wpIn_rangeFunc_G {α : Type} {g : Operand} {ps : Array Tmp} {assign body : Code} {Q : Exit → Act → World → Prop} {a : Act} {w : World}
    (hro : F.round = none) (h1 : 1 ≤ n) {gf : Nat} {lb : Array Value} (hg : a.eval g = .func (.func gf) #[] lb) (hFg : F.fn gf) (eg : ∀ args w, (callFunc gf args).run P w = .ok (.enter gf args) w)
    {encs : α → Array Value} {T : TypeId → Prop} {G : List α → α → World → Prop} {Kp : List α → α → World → World → Prop} {S : List α → Prop} {w0 : World}
    (hseq : SeqG F (n - 1) P gf lb encs T G Kp S w0) (hb0 : Below w0.heap.size w0 w) (hps : ∀ x, (encs x).size = ps.size)
    (hG : ∀ pre x A A', G pre x A → Bk7 w.heap.size A A' → G pre x A')
    (hK : ∀ pre x A A' B B', Bk7 w.heap.size A A' → Kp pre x A' B → Bk7 w.heap.size B B' → Kp pre x A B')
    (I : List α → World → Prop) (Ix : Code → List α → World → Prop)
    (hI : ∀ s A A', I s A → Tr7 T w.heap.size A A' → I s A') (hIx : ∀ c s A A', Ix c s A → Tr7 T w.heap.size A A' → Ix c s A') (h0 : I [] w) (a₁ : α → Act)
    (hassign : ∀ (l : Nat) (x : α) (W : World) (K : Act → World → Prop), K (a₁ x) W →
      assign.wpIn (F.inRound l) (n - 1 - 1) P (Exit.then K (fun _ _ _ => False)) { tmps := (ps.zip (encs x)).foldl (fun t (p, v) => t.setIfInBounds p v) a.tmps, defers := [] } W)
    (hbody : ∀ (l : Nat) (pre : List α) (x : α) (W : World), I pre W → G pre x W → body.wpIn (F.inRound l) (n - 1 - 1) P (gPost w.heap.size Kp I Ix pre x W) (a₁ x) W)
    (hdone : ∀ (D : Nat) (xs : List α) (W : World), w.heap.size ≤ D → S xs → I xs W → W.heap[D]? = some (.deferred (some [])) → Q .normal { a with defers := { target := .collected D, args := #[] } :: a.defers } W)
    (hstop : ∀ (D : Nat) (c : Code) (pre : List α) (W : World), w.heap.size ≤ D → Ix c pre W → W.heap[D]? = some (.deferred (some [])) → c.wpIn F n P Q { a with defers := { target := .collected D, args := #[] } :: a.defers } W) :
    (Code.rangeFunc g ps assign body).wpIn F n P Q a w := by
  refine wpIn_rangeFunc fun fn hfn => ?_
  rw [hro]
  obtain ⟨rc, hrc⟩ : ∃ rc : LoopState → Option Code → Loop, ∀ s p, rc s p = { state := s, pending := p, fn, tmps := a.tmps, params := ps, assign, body, defers := w.heap.size } := ⟨_, fun _ _ => rfl⟩
  -- the record and the block for deferred calls
  obtain ⟨L, hL⟩ : ∃ L : Option Obj → World → Prop, ∀ o W, L o W = (W.heap[w.heap.size + 1]? = o ∧ W.heap[w.heap.size]? = some (.deferred (some []))) := ⟨_, fun _ _ => rfl⟩
  obtain ⟨W1, hW1⟩ : ∃ W1, (w.alloc (.deferred (some []))).alloc (.loop (rc .ready none)) = W1 := ⟨_, rfl⟩
  have bk1 : Bk7 w.heap.size w W1 := by rw [← hW1]; exact (Bk7.alloc _ _ _).trans (Bk7.alloc _ _ _)
  have hL1 : L (some (.loop (rc .ready none))) W1 := by
    rw [hL, ← hW1]
    have e := World.alloc_heap_new (w.alloc (.deferred (some []))) (.loop (rc .ready none))
    rw [World.size_alloc] at e
    exact ⟨e, (Below.heap_alloc _ _ _ (by simp)).trans (World.alloc_heap_new w _)⟩
  have put : ∀ (o : Obj) (r : Loop) (W : World), L (some (.loop r)) W → L (some o) (W.putObj (w.heap.size + 1) o) ∧ Bk7 w.heap.size W (W.putObj (w.heap.size + 1) o) := fun o r W h => by
    rw [hL] at h ⊢
    exact ⟨⟨World.putObj_heap_same (Array.getElem?_eq_some_iff.1 h.1).1, (World.putObj_heap_other (by omega)).trans h.2⟩, Bk7.put _ (by omega) h.1 rfl⟩
  have trL : ∀ (r : Loop) (A A' : World), L (some (.loop r)) A → It7 T W1.heap.size A A' → L (some (.loop r)) A' := fun r A A' h k => by
    rw [hL] at h ⊢
    exact ⟨k.kept _ _ h.1 (.inr (fun ⟨_, _, _, e, _⟩ => by cases e)), k.kept _ _ h.2 (.inr (fun ⟨_, _, _, e, _⟩ => by cases e))⟩
  have hz : w.heap.size ≤ W1.heap.size := bk1.size
  refine ⟨w.heap.size + 1, [{ target := .collected w.heap.size, args := #[] }], W1, { target := .fn (.func gf) lb, args := #[.func (.yield (w.heap.size + 1)) #[] #[]] }, W1, gf,
    #[.func (.yield (w.heap.size + 1)) #[] #[]] ++ lb, W1, ?_, ?_, ?_, ?_, fun _ => h1, ?_⟩
  · rw [← hW1, hrc]; exact run_enterLoop_outer _ _ _ _ _
  · simp only [resolve, hg]
    simp [go_sem]
  · intro f' hf'; simp [Target.leads] at hf'; subst hf'; exact hFg
  · simp [invoke, go_sem, eg]
  · refine (hseq (w.heap.size + 1) (fun pre W => I pre W ∧ L (some (.loop (rc .ready none))) W) (fun pre W => ∃ c, Ix c pre W ∧ L (some (.loop (rc .done (some c)))) W) W1
      (hb0.trans ((Tr7.below (bk1.tr (T := T)) (Nat.le_refl _)).mono hb0.size))
      (fun s A A' h k => ⟨hI s A A' h.1 (k.tr hz), trL _ _ _ h.2 k⟩) (fun s A A' ⟨c, h, h'⟩ k => ⟨c, hIx c s A A' h (k.tr hz), trL _ _ _ h' k⟩) ?_ ⟨hI _ _ _ h0 bk1.tr, hL1⟩).mono ?_
    · rintro pre x W ⟨hi, hl⟩ hg
      obtain ⟨q1, q2⟩ := put (.loop (rc .busy none)) _ W hl
      have hlp := (show L (some (.loop (rc .ready none))) W from hl)
      rw [hL] at hlp
      have hy := run_yield (P := P) (args := encs x) hlp.1 (by rw [hrc]; exact hps x)
      rw [hrc] at hy
      refine ⟨fn, _, assign, body, hy, roundIn_of_wpIn hfn (hassign _ x W _ ⟨_, run_beginRound hlp.1 (by rw [hrc]), ?_⟩)⟩
      have eb : ({ rc .ready none with state := LoopState.busy } : Loop) = rc .busy none := by rw [hrc, hrc]
      rw [eb]
      refine wpIn_mono (hbody _ pre x _ (hI _ _ _ hi q2.tr) (hG _ _ _ _ hg q2)) ?_
      have fin : ∀ (jump : Option Code) (W3 : World), KeepsFrom w.heap.size (W.putObj (w.heap.size + 1) (.loop (rc .busy none))) W3 →
          (Instr.endRound (w.heap.size + 1) jump).run P W3 = .ok (.bool jump.isNone) (W3.putObj (w.heap.size + 1) (.loop (rc (if jump.isNone then .ready else .done) jump))) ∧
          L (some (.loop (rc (if jump.isNone then .ready else .done) jump))) (W3.putObj (w.heap.size + 1) (.loop (rc (if jump.isNone then .ready else .done) jump))) ∧
          Bk7 w.heap.size W3 (W3.putObj (w.heap.size + 1) (.loop (rc (if jump.isNone then .ready else .done) jump))) := fun jump W3 k3 => by
        have l3 : L (some (.loop (rc .busy none))) W3 := by
          rw [hL] at q1 ⊢
          exact ⟨k3.same _ _ (by omega) q1.1 rfl, k3.same _ _ (Nat.le_refl _) q1.2 rfl⟩
        obtain ⟨p1, p2⟩ := put (.loop (rc (if jump.isNone then .ready else .done) jump)) _ W3 l3
        rw [hL] at l3
        have e := run_endRound (P := P) jump l3.1
        rw [hrc] at e
        exact ⟨by rw [hrc]; exact e, p1, p2⟩
      rintro e a3 W3 hp
      cases e with
      | normal =>
        obtain ⟨k3, kp, hi3⟩ := hp
        obtain ⟨r1, r2, r3⟩ := fin none W3 k3
        exact ⟨_, _, r1, .inl ⟨rfl, ⟨hI _ _ _ hi3 r3.tr, r2⟩, hK _ _ _ _ _ _ q2 kp r3⟩⟩
      | ret =>
        obtain ⟨k3, hi3⟩ := hp
        obtain ⟨r1, r2, r3⟩ := fin (some .ret) W3 k3
        exact ⟨_, _, r1, .inr ⟨rfl, _, hIx _ _ _ _ hi3 r3.tr, r2⟩⟩
      | exit id =>
        obtain ⟨k3, hi3⟩ := hp
        obtain ⟨r1, r2, r3⟩ := fin (some (.exit id)) W3 k3
        exact ⟨_, _, r1, .inr ⟨rfl, _, hIx _ _ _ _ hi3 r3.tr, r2⟩⟩
      | goto t =>
        obtain ⟨k3, hi3⟩ := hp
        obtain ⟨r1, r2, r3⟩ := fin (some (.goto t)) W3 k3
        exact ⟨_, _, r1, .inr ⟨rfl, _, hIx _ _ _ _ hi3 r3.tr, r2⟩⟩
      | panic ch => exact hp.elim
      | outgrown => exact hp.elim
    · rintro e W2 ⟨⟨v, rfl⟩, (⟨xs, hS, hi, hl⟩ | ⟨pre, c, hi, hl⟩)⟩
      · obtain ⟨p1, p2⟩ := put (.loop (rc .exhausted none)) _ W2 hl
        rw [hL] at hl p1
        have r := run_endLoop (P := P) hl.1 (by rw [hrc]; simp)
        rw [hrc] at r
        rw [hrc] at p1 p2
        exact ⟨none, _, r, hdone _ xs _ (Nat.le_refl _) hS (hI _ _ _ hi p2.tr) p1.2⟩
      · obtain ⟨p1, p2⟩ := put (.loop (rc .exhausted (some c))) _ W2 hl
        rw [hL] at hl p1
        have r := run_endLoop (P := P) hl.1 (by rw [hrc]; simp)
        rw [hrc] at r
        rw [hrc] at p1 p2
        exact ⟨some c, _, r, hstop _ c pre _ (Nat.le_refl _) (hIx _ _ _ _ hi p2.tr) p1.2⟩
end Go.Proofs.YtgimcloadjjefabGreatDoor

/- Where a piece of a text ends. -/
namespace Go.Proofs.YtgimcloadjjefabGreatDoor
open Go Go.RowKit Go.Lib
set_option linter.unusedVariables false

theorem heap_below {w w' : World} (h : Below w.heap.size w w') {k : Nat} {o : Obj} (hk : w.heap[k]? = some o) : w'.heap[k]? = some o :=
  (h.block k (Array.getElem?_eq_some_iff.1 hk).1).trans hk
set_option maxHeartbeats 2000000 in
set_option maxRecDepth 100000 in
theorem placeOf_any (s : ByteArray) (rs : List Nat) (n : Nat) (w : World) (hv : s.data.toList = encs rs) (hs : ∀ r ∈ rs, scal r) (hn : n ≤ rs.length) (hb : s.size ≤ 281474976710656) (hl : rs.length ≤ s.size) :
    Calls Tryz.prog 86 #[.string s, .int .i64 n] w fun e w' => e = .returned (.int .i64 (pos rs n)) ∧ Below w.heap.size w w' := by
  go_enter Tryz.func86, Tryz.ntmps86
  go_wp2
  go_loopw [1] (fun m w' => ∃ i : Nat, i ≤ n ∧ m = .int .i64 ((n : Int) - i) ∧ w' = w.iter s (pos rs i)) (fun _ w' => s.size - w'.iterPos w.heap.size)
  case atStart => exact ⟨0, Nat.zero_le _, by simp, rfl⟩
  case round =>
    obtain ⟨i, hi, rfl, rfl⟩ := hrel
    by_cases hlt : i < rs.length
    · obtain ⟨hd, hp⟩ := decode_pos s rs hv hs i hlt
      have hps := pos_succ rs i hlt
      have hpl := enc_pos (hs _ (List.getElem_mem hlt))
      obtain ⟨W, hW⟩ : ∃ W, (enc rs[i]).length = W := ⟨_, rfl⟩
      obtain ⟨R, hR⟩ : ∃ R, rs[i] = R := ⟨_, rfl⟩
      obtain ⟨p, hpp⟩ : ∃ p, pos rs i = p := ⟨_, rfl⟩
      obtain ⟨q, hq⟩ : ∃ q, pos rs (i + 1) = q := ⟨_, rfl⟩
      rw [hW, hR, hpp] at hd
      rw [hW] at hpl
      rw [hpp, hW, hq] at hps
      rw [hpp] at hp ⊢
      have hnx : ∀ ty, (Instr.next (.pointer (some ⟨w.heap.size, 0, none⟩)) true ty).run Tryz.prog (w.iter s p) = .ok (.tuple #[.bool true, .int .i64 p, .int .i32 R]) (w.iter s q) := fun ty => by
        have := run_next_any (P := Tryz.prog) w s p ty hp
        rw [hd] at this
        rw [this, hps]
      have HP : Hid (pos rs i = p) := hpp
      have HQ : Hid (pos rs (i + 1) = q) := hq
      have hpq : p < q := by omega
      clear hd hps hpp hq hR hW hv hs
      by_cases hz : i = n
      · have hz' : ((n : Int) - i) = 0 := by omega
        go_wp2
        go_ret
        rw [← HP.out, hz]
        exact ⟨rfl, (Below.refl _ _).alloc (Nat.le_refl _) _⟩
      · have hz' : ¬ ((n : Int) - i) = 0 := by omega
        go_wp2
        go_roundw
        case rel => exact ⟨i + 1, by omega, by go_num, by rw [HQ.out]⟩
        case measure => simp; omega
    · have he : i = n := by omega
      have hpe : pos rs i = s.size := by
        have h1 : i = rs.length := by omega
        rw [h1, pos_all, ← hv, size_toList]
      have hnx : ∀ ty, (Instr.next (.pointer (some ⟨w.heap.size, 0, none⟩)) true ty).run Tryz.prog (w.iter s (pos rs i)) = _ := fun ty => run_next_end w s _ ty (by omega)
      have hP : Hid (pos rs n = s.size) := by show _ = _; rw [← he]; exact hpe
      clear hpe hv hs he
      go_wp2
      go_ret
      rw [hP.out]
      exact ⟨rfl, (Below.refl _ _).alloc (Nat.le_refl _) _⟩

end Go.Proofs.YtgimcloadjjefabGreatDoor

/- build: own and Pieces: a delta's pieces, each with a list of its own. -/
namespace Go.Proofs.YtgimcloadjjefabGreatDoor
open Go Go.RowKit Go.Lib
set_option linter.unusedVariables false

theorem as_r_e6 (v : Value) (W : World) : (Instr.typeAssert (.iface 73 v) 60 116 true).run Tryz.prog W = .ok (.tuple #[.agg #[.slice none 0 0, .string ⟨#[]⟩, .nilIface], .bool false]) W := by kernel_rfl
theorem as_d_e6 (v : Value) (W : World) : (Instr.typeAssert (.iface 82 v) 60 116 true).run Tryz.prog W = .ok (.tuple #[.agg #[.slice none 0 0, .string ⟨#[]⟩, .nilIface], .bool false]) W := by kernel_rfl
set_option maxHeartbeats 2000000 in
set_option maxRecDepth 100000 in
theorem own1_any (p : Option Addr) (l c : Nat) (t : ByteArray) (n : Int) (A : List A2) (w : World) (hR : RN w (.slice p l c) A) (hl : A.length ≤ 2097152) :
    Calls Tryz.prog 42 #[.iface 111 (.agg #[.slice p l c, .string t, .int .i64 n])] w fun r w' => ∃ p' c', r = .returned (.iface 111 (.agg #[.slice p' A.length c', .string t, .int .i64 n])) ∧ OwnA w' w.heap.size (.slice p' A.length c') A ∧ Below w.heap.size w w' := by
  have b0 : Below w.heap.size w (w.alloc (.cells #[.slice p l c, .string t, .int .i64 n] 111)) := (Below.refl _ _).alloc (Nat.le_refl _) _
  have k0 := heap_alloc_new w (.cells #[.slice p l c, .string t, .int .i64 n] 111)
  have cA := attributes_any (.slice p l c) A _ (hR.below b0).row hR.nz hl
  clear hR hl
  have a0 := as_i_i
  go_enter Tryz.func42, Tryz.ntmps42
  go_wp2_with fail
  refine cA.mono ?_; rintro r w2 ⟨v', rfl, own2, hb2⟩
  obtain ⟨p', c', rfl⟩ := own_slice own2
  have m0 := (hb2.block _ (by simp only [World.size_alloc]; omega)).trans k0
  have d0 : w2.cell? ⟨w.heap.size, 0, none⟩ = some (.slice p l c) := by rw [cell_of_heap m0]; rfl
  have d1 : w2.cell? ⟨w.heap.size, 1, none⟩ = some (.string t) := by rw [cell_of_heap m0]; rfl
  have d2 : w2.cell? ⟨w.heap.size, 2, none⟩ = some (.int .i64 n) := by rw [cell_of_heap m0]; rfl
  have f0 : w2.frozen? ⟨w.heap.size, 0, none⟩ = false := frozen_of_heap m0 0
  have HQ : Hid (OwnA (w2.setCell ⟨w.heap.size, 0, none⟩ (.slice p' A.length c')) w.heap.size (.slice p' A.length c') A ∧ Below w.heap.size w (w2.setCell ⟨w.heap.size, 0, none⟩ (.slice p' A.length c'))) :=
    ⟨own_weaken (ownsRow_setCell_below own2 (a := ⟨w.heap.size, 0, none⟩) (by simp only [World.size_alloc]; omega) _) (by simp only [World.size_alloc]; omega), (b0.trans (hb2.mono b0.size)).setCell (Nat.le_refl _) _⟩
  clear cA b0 k0 own2 hb2 m0
  go_wp2
  go_ret
  exact ⟨p', c', rfl, HQ.out⟩
set_option maxHeartbeats 2000000 in
set_option maxRecDepth 100000 in
theorem own2_any (p : Option Addr) (l c : Nat) (t : ByteArray) (V : Value) (A : List A2) (w : World) (hR : RN w (.slice p l c) A) (hl : A.length ≤ 2097152) (hV : ∃ u x, V = .iface u x) :
    Calls Tryz.prog 42 #[.iface 116 (.agg #[.slice p l c, .string t, V])] w fun r w' => ∃ p' c', r = .returned (.iface 116 (.agg #[.slice p' A.length c', .string t, V])) ∧ OwnA w' w.heap.size (.slice p' A.length c') A ∧ Below w.heap.size w w' := by
  obtain ⟨u, x, rfl⟩ := hV
  have b0 : Below w.heap.size w (w.alloc (.cells #[.slice p l c, .string t, .iface u x] 116)) := (Below.refl _ _).alloc (Nat.le_refl _) _
  have k0 := heap_alloc_new w (.cells #[.slice p l c, .string t, .iface u x] 116)
  have cA := attributes_any (.slice p l c) A _ (hR.below b0).row hR.nz hl
  clear hR hl
  have a0 := as_e_i
  have a1 := as_e_e
  go_enter Tryz.func42, Tryz.ntmps42
  go_wp2_with fail
  refine cA.mono ?_; rintro r w2 ⟨v', rfl, own2, hb2⟩
  obtain ⟨p', c', rfl⟩ := own_slice own2
  have m0 := (hb2.block _ (by simp only [World.size_alloc]; omega)).trans k0
  have d0 : w2.cell? ⟨w.heap.size, 0, none⟩ = some (.slice p l c) := by rw [cell_of_heap m0]; rfl
  have d1 : w2.cell? ⟨w.heap.size, 1, none⟩ = some (.string t) := by rw [cell_of_heap m0]; rfl
  have d2 : w2.cell? ⟨w.heap.size, 2, none⟩ = some (.iface u x) := by rw [cell_of_heap m0]; rfl
  have f0 : w2.frozen? ⟨w.heap.size, 0, none⟩ = false := frozen_of_heap m0 0
  have HQ : Hid (OwnA (w2.setCell ⟨w.heap.size, 0, none⟩ (.slice p' A.length c')) w.heap.size (.slice p' A.length c') A ∧ Below w.heap.size w (w2.setCell ⟨w.heap.size, 0, none⟩ (.slice p' A.length c'))) :=
    ⟨own_weaken (ownsRow_setCell_below own2 (a := ⟨w.heap.size, 0, none⟩) (by simp only [World.size_alloc]; omega) _) (by simp only [World.size_alloc]; omega), (b0.trans (hb2.mono b0.size)).setCell (Nat.le_refl _) _⟩
  clear cA b0 k0 own2 hb2 m0
  go_wp2
  go_ret
  exact ⟨p', c', rfl, HQ.out⟩
set_option maxHeartbeats 2000000 in
set_option maxRecDepth 100000 in
theorem own3_any (p : Option Addr) (l c : Nat) (n : Int) (A : List A2) (w : World) (hR : RN w (.slice p l c) A) (hl : A.length ≤ 2097152) :
    Calls Tryz.prog 42 #[.iface 73 (.agg #[.slice p l c, .int .i64 n])] w fun r w' => ∃ p' c', r = .returned (.iface 73 (.agg #[.slice p' A.length c', .int .i64 n])) ∧ OwnA w' w.heap.size (.slice p' A.length c') A ∧ Below w.heap.size w w' := by
  have b0 : Below w.heap.size w (w.alloc (.cells #[.slice p l c, .int .i64 n] 73)) := (Below.refl _ _).alloc (Nat.le_refl _) _
  have k0 := heap_alloc_new w (.cells #[.slice p l c, .int .i64 n] 73)
  have cA := attributes_any (.slice p l c) A _ (hR.below b0).row hR.nz hl
  clear hR hl
  have a0 := as_r_i
  have a1 := as_r_e6
  have a2 := as_r_r
  go_enter Tryz.func42, Tryz.ntmps42
  go_wp2_with fail
  refine cA.mono ?_; rintro r w2 ⟨v', rfl, own2, hb2⟩
  obtain ⟨p', c', rfl⟩ := own_slice own2
  have m0 := (hb2.block _ (by simp only [World.size_alloc]; omega)).trans k0
  have d0 : w2.cell? ⟨w.heap.size, 0, none⟩ = some (.slice p l c) := by rw [cell_of_heap m0]; rfl
  have d1 : w2.cell? ⟨w.heap.size, 1, none⟩ = some (.int .i64 n) := by rw [cell_of_heap m0]; rfl
  have f0 : w2.frozen? ⟨w.heap.size, 0, none⟩ = false := frozen_of_heap m0 0
  have HQ : Hid (OwnA (w2.setCell ⟨w.heap.size, 0, none⟩ (.slice p' A.length c')) w.heap.size (.slice p' A.length c') A ∧ Below w.heap.size w (w2.setCell ⟨w.heap.size, 0, none⟩ (.slice p' A.length c'))) :=
    ⟨own_weaken (ownsRow_setCell_below own2 (a := ⟨w.heap.size, 0, none⟩) (by simp only [World.size_alloc]; omega) _) (by simp only [World.size_alloc]; omega), (b0.trans (hb2.mono b0.size)).setCell (Nat.le_refl _) _⟩
  clear cA b0 k0 own2 hb2 m0
  go_wp2
  go_ret
  exact ⟨p', c', rfl, HQ.out⟩
set_option maxHeartbeats 1000000 in
theorem own4_any (n : Int) (w : World) : Calls Tryz.prog 42 #[.iface 82 (.agg #[.int .i64 n])] w fun r w' => r = .returned (.iface 82 (.agg #[.int .i64 n])) ∧ Below w.heap.size w w' := by
  have a0 := as_d_i
  have a1 := as_d_e6
  have a2 := as_d_r
  go_enter Tryz.func42, Tryz.ntmps42
  go_wp2
  go_ret
  exact ⟨rfl, by go_grown⟩
theorem ownP_any (e : Op5) (s : Value) (w : World) (hg : opE e = 0) (hR : RN w s e.A) (hl : e.A.length ≤ 2097152) :
    Calls Tryz.prog 42 #[pieceQ e s] w fun r w' => ∃ s', r = .returned (pieceQ e s') ∧ OwnA w' w.heap.size s' e.A ∧ Below w.heap.size w w' := by
  obtain ⟨p, c, rfl, _⟩ := hR.row.val
  rcases kinds_of hg with h | h | h | h
  · rw [pieceQ_1 h]
    refine (own1_any p _ c e.t _ e.A w hR hl).mono ?_
    rintro r w' ⟨p', c', h1, h2, h3⟩
    exact ⟨.slice p' e.A.length c', by rw [h1, pieceQ_1 h], h2, h3⟩
  · rw [pieceQ_2 h]
    refine (own2_any p _ c e.t _ e.A w hR hl (valP_if _)).mono ?_
    rintro r w' ⟨p', c', h1, h2, h3⟩
    exact ⟨.slice p' e.A.length c', by rw [h1, pieceQ_2 h], h2, h3⟩
  · rw [pieceQ_3 h]
    refine (own3_any p _ c e.c e.A w hR hl).mono ?_
    rintro r w' ⟨p', c', h1, h2, h3⟩
    exact ⟨.slice p' e.A.length c', by rw [h1, pieceQ_3 h], h2, h3⟩
  · rw [pieceQ_4 h]
    refine (own4_any e.c w).mono ?_
    rintro r w' ⟨h1, h3⟩
    exact ⟨.slice none 0 0, by rw [h1, pieceQ_4 h], by rw [drop_A hg h]; exact World.ownsRow_nil _ _ _ _, h3⟩
set_option maxHeartbeats 4000000 in
set_option maxRecDepth 100000 in
theorem pieces_any {B1 B2 : Nat} (v : Value) (E : List Op5) (w : World) (h : DelV w B1 B2 v E) (hg : ∀ o ∈ E, opE o = 0) (hA : ∀ o ∈ E, o.A.length ≤ 2097152) (hl : E.length ≤ 4194304) :
    Calls Tryz.prog 30 #[v] w fun e w' => ∃ v', e = .returned v' ∧ (∃ P, OwnI w' w.heap.size v' P ∧ PieD w' w.heap.size P E) ∧ Below w.heap.size w w' := by
  obtain ⟨q, pv, PL, rfl, _, hq, hrow, hpie⟩ := h
  have c0 : w.cell? ⟨q, 0, none⟩ = some pv := by rw [cell_of_heap hq]; rfl
  obtain ⟨p, cap, rfl, hrd⟩ := del_read (q := q) hrow hpie
  have HV : Hid (∀ k, k < E.length → ∃ ga e s, p = some ⟨ga, 0, none⟩ ∧ E[k]? = some e ∧ w.cell? ⟨ga, k, none⟩ = some (pieceQ e s) ∧ OwnA w B2 s e.A) := hrd
  have HG : Hid (∀ o ∈ E, opE o = 0 ∧ o.A.length ≤ 2097152) := fun o ho => ⟨hg o ho, hA o ho⟩
  obtain ⟨n, hn⟩ : ∃ n, E.length = n := ⟨_, rfl⟩
  have HN : Hid (E.length = n) := hn
  rw [hn] at c0 hl HV
  clear hq hrow hpie hrd hg hA hn
  go_enter Tryz.func30, Tryz.ntmps30
  go_wp2_with (at_make; refine wpList_make_pi2 _ rfl _ _ rfl w.heap.size .i64 .i64 _ n rfl rfl rfl (by omega) (Nat.le_refl _) ?_; intro v0 w1 hown hgr; have hb1 : Below w.heap.size w w1 := (Below.refl _ _).grown hgr (Nat.le_refl _) (fun k hk => by cases hk); have c1 := (hb1.cell (lt_of_cell c0)).trans c0; clear hgr)
  go_loopw [3, 17] (fun al i wr => ∃ (k : Nat) (D : List Value), k ≤ n ∧ i = .int .i64 k ∧ D.length = k ∧ OwnI wr w.heap.size al D ∧ PieD wr w.heap.size D (E.take k) ∧ Below w.heap.size w wr) (fun _ i _ => n - (RowKit.intOf i).toNat)
  case atStart => exact ⟨0, [], Nat.zero_le _, rfl, rfl, hown, .nil, hb1⟩
  case round =>
    clear hown hb1 c1
    obtain ⟨k, D, hk, rfl, hDl, hown, hsp, hbw⟩ := hrel
    by_cases hlt : k < n
    · have hltI : (k : Int) < n := by omega
      obtain ⟨ga, e, s, rfl, he, hc, hs⟩ := HV.out k hlt
      have c2 := (hbw.cell (lt_of_cell hc)).trans hc
      have hs2 := owns_below hs hbw
      obtain ⟨hg1, hA1⟩ := HG.out e (List.mem_of_getElem? he)
      have HT : Hid (E.take (k + 1) = E.take k ++ [e]) := by show _ = _; rw [List.take_add_one, he]; rfl
      have hge : Hid (∀ j, u3.ownBlock = some j → w.heap.size ≤ j) := fun j hj => (owns_block hown j hj).1
      have HO : Hid (OwnI wr w.heap.size u3 D ∧ PieD wr w.heap.size D (E.take k)) := ⟨hown, hsp⟩
      have hlen : D.length ≤ 8388608 := by omega
      have hlz : w.heap.size ≤ wr.heap.size := hbw.size
      have cO := ownP_any e s wr hg1 (own_RN hs2) hA1
      obtain ⟨u, x, hux⟩ := pieceQ_if e s
      have hq := fun s' => pieceQ_if e s'
      obtain ⟨PQ, hPQ⟩ : ∃ f : Value → Value, pieceQ e = f := ⟨_, rfl⟩
      have HPQ : Hid (pieceQ e = PQ) := hPQ
      rw [hPQ] at cO hux hq
      rw [hPQ] at c2
      rw [hux] at c2 cO
      clear he hc hs hs2 hown hsp hg1 hA1 hux hPQ
      go_wp2_with fail
      refine cO.mono ?_; rintro r w5 ⟨s', rfl, own5, hb5⟩
      obtain ⟨u', x', hux'⟩ := hq s'
      have HU : Hid (PQ s' = .iface u' x') := hux'
      rw [hux']
      have bw5 : Below w.heap.size w w5 := hbw.trans (hb5.mono hlz)
      have ba : Below w5.heap.size w5 (w5.alloc (.cells #[.iface u' x'] 60)) := (Below.refl _ _).alloc (Nat.le_refl _) _
      have hu6 : (w5.alloc (.cells #[.iface u' x'] 60)).cell? ⟨w5.heap.size, 0, none⟩ = some (.iface u' x') := by simp
      have HO7 : Hid (OwnI (w5.alloc (.cells #[.iface u' x'] 60)) w.heap.size u3 D) := owns_below (owns_below HO.out.1 hb5) ba
      have HP7 : Hid (PieD (w5.alloc (.cells #[.iface u' x'] 60)) w.heap.size (D ++ [.iface u' x']) (E.take (k + 1))) := by
        show PieD _ _ _ _
        rw [HT.out]
        exact forall2_append ((HO.out.2.below hb5).below ba) (.cons ⟨s', by rw [HPQ.out, HU.out], own_weaken (owns_below own5 ba) hlz⟩ .nil)
      have bw7 := bw5.trans (ba.mono bw5.size)
      clear own5 hb5 bw5 ba HO HT cO c2 hux' hq
      go_wp2_with (at_builtin; refine wpList_append_piAt rfl (.tmp 21) (.tmp 24) rfl w.heap.size u3 D rfl HO7.out w5.heap.size 1 (.iface u' x') rfl hu6 rfl hlen bw7.size ?_; intro v8 w8 own8 gr8 hat8; have hsp8 : Hid (PieD w8 w.heap.size _ _) := HP7.out.keep (keepA_grownI HO7.out gr8); have b8 := bw7.grown gr8 bw7.size (fun j hj => hge.out j hj); have HO8 : Hid (OwnI w8 w.heap.size v8 _) := own8; clear own8 gr8 hat8 HO7 HP7 hu6)
      go_roundw
      case rel => exact ⟨k + 1, _, by omega, by go_num, by simp [hDl], HO8.out, hsp8.out, b8⟩
      case measure => simp [RowKit.intOf]; omega
    · have hltI : ¬ (k : Int) < n := by omega
      have hE : E.take k = E := List.take_of_length_le (by rw [HN.out]; omega)
      rw [hE] at hsp
      have HX : Hid (∃ P, OwnI wr w.heap.size u3 P ∧ PieD wr w.heap.size P E) := ⟨D, hown, hsp⟩
      clear hown hsp
      go_wp2
      go_ret
      exact ⟨_, rfl, HX.out, hbw⟩
end Go.Proofs.YtgimcloadjjefabGreatDoor

/- A Walker in memory: its own cell, the row of what is left. -/
namespace Go.Proofs.YtgimcloadjjefabGreatDoor
open Go Go.RowKit Go.Lib
set_option linter.unusedVariables false

/-- The types of the cells that walkers write. -/
def TW (t : TypeId) : Prop := t = 84 ∨ t = 60
def isTW (o : Obj) : Prop := ∃ cs t fz, o = .cells cs t fz ∧ TW t
/-- What a Walker's step turns: its own cell and its row. -/
structure FrW (q g : Nat) (w w' : World) : Prop where
  os : w'.os = w.os
  tape : w'.tape = w.tape
  output : w'.output = w.output
  size : w.heap.size ≤ w'.heap.size
  kept : ∀ (k : Nat) (o : Obj), w.heap[k]? = some o → (¬ isTW o ∨ (k ≠ q ∧ k ≠ g)) → w'.heap[k]? = some o
theorem FrW.refl (q g : Nat) (w : World) : FrW q g w w := ⟨rfl, rfl, rfl, Nat.le_refl _, fun _ _ h _ => h⟩
theorem FrW.trans {q g : Nat} {a b c : World} (h : FrW q g a b) (k : FrW q g b c) : FrW q g a c :=
  ⟨k.os.trans h.os, k.tape.trans h.tape, k.output.trans h.output, Nat.le_trans h.size k.size, fun i o hi ho => k.kept i o (h.kept i o hi ho) ho⟩
theorem FrW.of_below {q g : Nat} {w w' : World} (h : Below w.heap.size w w') : FrW q g w w' :=
  ⟨h.os, h.tape, h.output, h.size, fun k o hk _ => (h.block k (Array.getElem?_eq_some_iff.1 hk).1).trans hk⟩
theorem FrW.it {q g B : Nat} {w w' : World} (h : FrW q g w w') (hq : B ≤ q) (hg : B ≤ g) : It7 TW B w w' :=
  ⟨h.os, h.tape, h.output, h.size, fun k o hk ho => h.kept k o hk (ho.elim (fun q => .inr (by omega)) (fun q => .inl q))⟩
theorem It7.lowB {T : TypeId → Prop} {B : Nat} {A A' : World} (h : It7 T B A A') (hB : B ≤ A.heap.size) : Below B A A' := (h.tr (Nat.le_refl _)).below hB
theorem FrW.below {q g B : Nat} {w w' : World} (h : FrW q g w w') (hq : B ≤ q) (hg : B ≤ g) (hB : B ≤ w.heap.size) : Below B w w' := (h.it hq hg).lowB hB
theorem It7.keepA {B : Nat} {w w' : World} (h : It7 TW B w w') : KeepA w w' := fun k cur hk => by
  rw [h.kept k _ hk (.inr (by rintro ⟨cs, t, fz, e, ht⟩; cases e; rcases ht with ht | ht <;> exact absurd ht (by decide))), hk]
theorem FrW.keepA {q g : Nat} {w w' : World} (h : FrW q g w w') : KeepA w w' := (h.it (Nat.zero_le _) (Nat.zero_le _)).keepA
theorem FrW.setQ {q g j : Nat} {w : World} {cs : Array Value} {fz : Nat × Nat} (h : w.heap[q]? = some (.cells cs 84 fz)) (u : Value) : FrW q g w (w.setCell ⟨q, j, none⟩ u) :=
  ⟨rfl, rfl, rfl, by simp [World.setCell], fun k o hk ho => by
    have hne : k ≠ q := by
      rintro rfl
      rw [h] at hk; cases hk
      rcases ho with ho | ho
      · exact ho ⟨_, _, _, rfl, .inl rfl⟩
      · exact ho.1 rfl
    exact (Below.heap_setCell _ _ _ _ hne).trans hk⟩
theorem FrW.setG {q g j : Nat} {w : World} {cs : Array Value} {fz : Nat × Nat} (h : w.heap[g]? = some (.cells cs 60 fz)) (u : Value) : FrW q g w (w.setCell ⟨g, j, none⟩ u) :=
  ⟨rfl, rfl, rfl, by simp [World.setCell], fun k o hk ho => by
    have hne : k ≠ g := by
      rintro rfl
      rw [h] at hk; cases hk
      rcases ho with ho | ho
      · exact ho ⟨_, _, _, rfl, .inr rfl⟩
      · exact ho.2 rfl
    exact (Below.heap_setCell _ _ _ _ hne).trans hk⟩

/-- A Walker that has R before it. -/
structure WkV (w : World) (B q g : Nat) (R : List Op5) : Prop where
  ne : q ≠ g
  lq : B ≤ q
  lg : B ≤ g
  st : ∃ p cap, w.heap[q]? = some (.cells #[.slice p R.length cap] 84 (0, 0)) ∧ R.length ≤ cap ∧
    (R ≠ [] → ∃ off cs, p = some ⟨g, off, none⟩ ∧ w.heap[g]? = some (.cells cs 60 (0, 0)) ∧ ∀ (j : Nat) (e : Op5), R[j]? = some e → ∃ s, cs[off + j]? = some (pieceQ e s) ∧ OwnA w B s e.A)
theorem WkV.same {w w' : World} {B q g : Nat} {R : List Op5} (h : WkV w B q g R) (hq : ∀ o, w.heap[q]? = some o → w'.heap[q]? = some o) (hg : ∀ o, w.heap[g]? = some o → w'.heap[g]? = some o) (hk : KeepA w w') : WkV w' B q g R := by
  obtain ⟨h1, h2, h3, p, cap, h4, h5, h6⟩ := h
  refine ⟨h1, h2, h3, p, cap, hq _ h4, h5, fun h0 => ?_⟩
  obtain ⟨off, cs, e, hgo, hr⟩ := h6 h0
  refine ⟨off, cs, e, hg _ hgo, fun j x hx => ?_⟩
  obtain ⟨s, a1, a2⟩ := hr j x hx
  exact ⟨s, a1, keepA_own a2 hk⟩
theorem WkV.below {w w' : World} {B q g : Nat} {R : List Op5} (h : WkV w B q g R) (b : Below w.heap.size w w') : WkV w' B q g R :=
  h.same (fun o ho => heap_below b ho) (fun o ho => heap_below b ho) (keepA_below b)
/-- Another Walker's step leaves it. -/
theorem WkV.other {w w' : World} {B q g q' g' : Nat} {R : List Op5} (h : WkV w B q g R) (f : FrW q' g' w w') (h1 : q ≠ q' ∧ q ≠ g') (h2 : g ≠ q' ∧ g ≠ g') : WkV w' B q g R :=
  h.same (fun o ho => f.kept _ _ ho (.inr h1)) (fun o ho => f.kept _ _ ho (.inr h2)) f.keepA
theorem WkV.lt {w : World} {B q g : Nat} {R : List Op5} (h : WkV w B q g R) : q < w.heap.size := by
  obtain ⟨_, _, _, p, cap, h4, _⟩ := h
  exact (Array.getElem?_eq_some_iff.1 h4).1
theorem WkV.read0 {w : World} {B q g : Nat} {R : List Op5} (h : WkV w B q g R) : ∃ p cap, w.cell? ⟨q, 0, none⟩ = some (.slice p R.length cap) ∧ w.frozen? ⟨q, 0, none⟩ = false ∧ R.length ≤ cap := by
  obtain ⟨_, _, _, p, cap, h4, h5, _⟩ := h
  exact ⟨p, cap, by rw [cell_of_heap h4]; rfl, frozen_of_heap h4 0, h5⟩
theorem WkV.read1 {w : World} {B q g : Nat} {x : Op5} {r : List Op5} (h : WkV w B q g (x :: r)) : ∃ off cap s, w.cell? ⟨q, 0, none⟩ = some (.slice (some ⟨g, off, none⟩) (r.length + 1) cap) ∧ w.frozen? ⟨q, 0, none⟩ = false ∧ r.length + 1 ≤ cap ∧ w.cell? ⟨g, off, none⟩ = some (pieceQ x s) ∧ w.frozen? ⟨g, off, none⟩ = false ∧ OwnA w B s x.A := by
  obtain ⟨h1, h2, h3, p, cap, h4, h5, h6⟩ := h
  obtain ⟨off, cs, rfl, hgo, hr⟩ := h6 (by simp)
  obtain ⟨s, a1, a2⟩ := hr 0 x rfl
  exact ⟨off, cap, s, by rw [cell_of_heap h4]; rfl, frozen_of_heap h4 0, by simpa using h5, by rw [cell_of_heap hgo]; exact a1, frozen_of_heap hgo off, a2⟩
theorem WkV.drop {w : World} {B q g off cap c' : Nat} {p' : Option Addr} {x : Op5} {r : List Op5} (h : WkV w B q g (x :: r)) (hc : w.cell? ⟨q, 0, none⟩ = some (.slice (some ⟨g, off, none⟩) (r.length + 1) cap)) (hl : r.length ≤ c') (hp : r ≠ [] → p' = some ⟨g, off + 1, none⟩) :
    WkV (w.setCell ⟨q, 0, none⟩ (.slice p' r.length c')) B q g r ∧ FrW q g w (w.setCell ⟨q, 0, none⟩ (.slice p' r.length c')) := by
  obtain ⟨h1, h2, h3, p, cap0, h4, h5, h6⟩ := h
  obtain ⟨off0, cs, rfl, hgo, hr⟩ := h6 (by simp)
  have e : w.cell? ⟨q, 0, none⟩ = some (.slice (some ⟨g, off0, none⟩) (r.length + 1) cap0) := by rw [cell_of_heap h4]; rfl
  rw [e] at hc
  simp only [Option.some.injEq, Value.slice.injEq, Addr.mk.injEq] at hc
  obtain ⟨⟨_, rfl, _⟩, _, rfl⟩ := hc
  have f := FrW.setQ (g := g) (j := 0) h4 (.slice p' r.length c')
  refine ⟨⟨h1, h2, h3, p', c', ?_, hl, fun h0 => ⟨off0 + 1, cs, hp h0, (Below.heap_setCell _ _ _ _ (Ne.symm h1)).trans hgo, fun j e he => ?_⟩⟩, f⟩
  · rw [heap_set_at w q 0 _ _ _ _ h4]; rfl
  · obtain ⟨s, a1, a2⟩ := hr (j + 1) e he
    exact ⟨s, by rw [show off0 + 1 + j = off0 + (j + 1) by omega]; exact a1, keepA_own a2 f.keepA⟩
theorem WkV.put {w : World} {B q g off cap : Nat} {x x' : Op5} {r : List Op5} {s' : Value} (h : WkV w B q g (x :: r)) (hc : w.cell? ⟨q, 0, none⟩ = some (.slice (some ⟨g, off, none⟩) (r.length + 1) cap)) (hs : OwnA w B s' x'.A) :
    WkV (w.setCell ⟨g, off, none⟩ (pieceQ x' s')) B q g (x' :: r) ∧ FrW q g w (w.setCell ⟨g, off, none⟩ (pieceQ x' s')) := by
  obtain ⟨h1, h2, h3, p, cap0, h4, h5, h6⟩ := h
  obtain ⟨off0, cs, rfl, hgo, hr⟩ := h6 (by simp)
  have e : w.cell? ⟨q, 0, none⟩ = some (.slice (some ⟨g, off0, none⟩) (r.length + 1) cap0) := by rw [cell_of_heap h4]; rfl
  rw [e] at hc
  simp only [Option.some.injEq, Value.slice.injEq, Addr.mk.injEq] at hc
  obtain ⟨⟨_, rfl, _⟩, _, rfl⟩ := hc
  have f := FrW.setG (q := q) (j := off0) hgo (pieceQ x' s')
  have h00 : off0 < cs.size := by
    obtain ⟨s, a1, _⟩ := hr 0 x rfl
    exact (Array.getElem?_eq_some_iff.1 a1).1
  refine ⟨⟨h1, h2, h3, some ⟨g, off0, none⟩, cap0, (Below.heap_setCell _ _ _ _ h1).trans h4, h5, fun _ => ⟨off0, _, rfl, heap_set_at w g off0 _ _ _ _ hgo, fun j e he => ?_⟩⟩, f⟩
  cases j with
  | zero =>
    obtain rfl : x' = e := by simpa using he
    exact ⟨s', by simp [h00], keepA_own hs f.keepA⟩
  | succ j =>
    obtain ⟨s, a1, a2⟩ := hr (j + 1) e he
    exact ⟨s, by rw [Array.getElem?_setIfInBounds_ne (by omega)]; exact a1, keepA_own a2 f.keepA⟩
/-- A new one. -/
theorem wk_new {w : World} {B : Nat} {v : Value} {P : List Value} {E : List Op5} (h : OwnI w B v P) (hp : PieD w B P E) (hB : B ≤ w.heap.size) : ∃ g, WkV (w.alloc (.cells #[v] 84)) B w.heap.size g E ∧ (E ≠ [] → g < w.heap.size) := by
  have hl := forall2_len hp
  have hb : Below w.heap.size w (w.alloc (.cells #[v] 84)) := (Below.refl _ _).alloc (Nat.le_refl _) _
  have hn : (w.alloc (.cells #[v] 84)).heap[w.heap.size]? = some (.cells #[v] 84 (0, 0)) := heap_alloc_new w _
  rcases h.2 with ⟨hv, h0⟩ | ⟨g, cap, cur, hv, hg, hgg, hc, _, hcs, ht⟩
  · have hE : E = [] := List.eq_nil_of_length_eq_zero (by omega)
    subst hE
    refine ⟨w.heap.size + 1, ⟨by omega, hB, by omega, none, 0, ?_, Nat.zero_le _, fun h => absurd rfl h⟩, fun h => absurd rfl h⟩
    rw [hn, hv]; rfl
  · have hgl : g < w.heap.size := (Array.getElem?_eq_some_iff.1 hgg).1
    refine ⟨g, ⟨by omega, hB, hg, some ⟨g, 0, none⟩, cap, by rw [hn, hv, hl], by omega, fun _ => ⟨0, cur, rfl, heap_below hb hgg, fun j e he => ?_⟩⟩, fun _ => hgl⟩
    obtain ⟨x, hx, s, rfl, hs⟩ : ∃ x, P[j]? = some x ∧ ∃ s, x = pieceQ e s ∧ OwnA w B s e.A := by
      have hj : j < P.length := by rw [hl]; exact (List.getElem?_eq_some_iff.1 he).1
      obtain ⟨e', s, he', hx, hs⟩ := oneI hp (List.getElem?_eq_getElem hj)
      obtain rfl : e' = e := Option.some.inj (he'.symm.trans he)
      exact ⟨_, List.getElem?_eq_getElem hj, s, hx, hs⟩
    refine ⟨s, ?_, owns_below hs hb⟩
    rw [Nat.zero_add, ← Array.getElem?_toList]
    rw [← ht, Nat.mul_one, List.getElem?_take] at hx
    split at hx
    · exact hx
    · cases hx
end Go.Proofs.YtgimcloadjjefabGreatDoor

/- Calls of a piece's methods through the interface; the Walker's small calls. -/
namespace Go.Proofs.YtgimcloadjjefabGreatDoor
open Go Go.RowKit Go.Lib
set_option linter.unusedVariables false

theorem len5_1 {e : Op5} (hk : e.k = 1) : len5 e = ((scs e.t.data.toList).length : Int) := by
  unfold len5 lenO; rw [if_pos (Or.inl hk), if_pos hk]
theorem len5_2 {e : Op5} (hk : e.k = 2) : len5 e = 1 := by
  unfold len5 lenO; rw [if_pos (Or.inr hk), if_neg (by omega)]; rfl
theorem len5_3 {e : Op5} (hk : e.k = 3 ∨ e.k = 4) : len5 e = e.c := by
  unfold len5; rw [if_neg (by omega)]
theorem wpList_opP {w : World} {ops : Array Oper} {rest : List Oper} {o : Oper} {a : Act} {Q : Exit → Act → World → Prop} (hgd : o.guard = none) (x : Operand)
    (ho : o.op = .call { callee := .invoke x "Op", args := #[], argTypes := #[] }) (e : Op5) (s : Value) (hx : a.eval x = pieceQ e s) (hg : opE e = 0) (hR : RN w s e.A) (hl : e.A.length ≤ 2097152)
    (h : ∀ v' w', OwnA w' w.heap.size v' e.A → Below w.heap.size w w' → wpList Tryz.prog ops Q rest (a.put o.dst (opV e v')) w') : wpList Tryz.prog ops Q (o :: rest) a w := by
  refine wpList_plain hgd fun K hK => ?_
  unfold Oper.wp
  rcases kinds_of hg with hk | hk | hk | hk
  · rw [pieceQ_1 hk] at hx
    have hrun : (execOp a.eval o).run Tryz.prog w = .ok (.enter 137 #[.agg #[s, .string e.t, .int .i64 (scs e.t.data.toList).length]]) w := by
      simp only [execOp, ho, resolve, hx]
      kernel_rfl
    rw [hrun, Oper.upon_enter]
    refine (opQ_1 hg hk s w hR hl).mono fun r w' hh => ?_
    obtain ⟨v', rfl, h1, h2⟩ := hh
    exact hK _ _ (h v' w' h1 h2)
  · rw [pieceQ_2 hk] at hx
    have hrun : (execOp a.eval o).run Tryz.prog w = .ok (.enter 139 #[.agg #[s, .string e.t, valP e.v]]) w := by
      simp only [execOp, ho, resolve, hx]
      kernel_rfl
    rw [hrun, Oper.upon_enter]
    refine (opQ_2 hg hk s w hR hl).mono fun r w' hh => ?_
    obtain ⟨v', rfl, h1, h2⟩ := hh
    exact hK _ _ (h v' w' h1 h2)
  · rw [pieceQ_3 hk] at hx
    have hrun : (execOp a.eval o).run Tryz.prog w = .ok (.enter 133 #[.agg #[s, .int .i64 e.c]]) w := by
      simp only [execOp, ho, resolve, hx]
      kernel_rfl
    rw [hrun, Oper.upon_enter]
    refine (opQ_3 hg hk s w hR hl).mono fun r w' hh => ?_
    obtain ⟨v', rfl, h1, h2⟩ := hh
    exact hK _ _ (h v' w' h1 h2)
  · rw [pieceQ_4 hk] at hx
    have hrun : (execOp a.eval o).run Tryz.prog w = .ok (.enter 135 #[.agg #[.int .i64 e.c]]) w := by
      simp only [execOp, ho, resolve, hx]
      kernel_rfl
    rw [hrun, Oper.upon_enter]
    refine (opQ_4 hg hk w).mono fun r w' hh => ?_
    obtain ⟨v', rfl, h1, h2⟩ := hh
    exact hK _ _ (h v' w' h1 h2)
theorem wpList_lenP {w : World} {ops : Array Oper} {rest : List Oper} {o : Oper} {a : Act} {Q : Exit → Act → World → Prop} (hgd : o.guard = none) (x : Operand)
    (ho : o.op = .call { callee := .invoke x "Len", args := #[], argTypes := #[] }) (e : Op5) (s : Value) (hx : a.eval x = pieceQ e s) (hg : opE e = 0)
    (h : ∀ w', Below w.heap.size w w' → wpList Tryz.prog ops Q rest (a.put o.dst (.int .i64 (len5 e))) w') : wpList Tryz.prog ops Q (o :: rest) a w := by
  refine wpList_plain hgd fun K hK => ?_
  unfold Oper.wp
  rcases kinds_of hg with hk | hk | hk | hk
  · rw [pieceQ_1 hk] at hx
    rw [len5_1 hk] at h
    have hrun : (execOp a.eval o).run Tryz.prog w = .ok (.enter 136 #[.agg #[s, .string e.t, .int .i64 (scs e.t.data.toList).length]]) w := by
      simp only [execOp, ho, resolve, hx]
      kernel_rfl
    rw [hrun, Oper.upon_enter]
    refine (ilen_any s e.t _ w).mono fun r w' hh => ?_
    obtain ⟨rfl, h2⟩ := hh
    exact hK _ _ (h w' h2)
  · rw [pieceQ_2 hk] at hx
    rw [len5_2 hk] at h
    have hrun : (execOp a.eval o).run Tryz.prog w = .ok (.enter 138 #[.agg #[s, .string e.t, valP e.v]]) w := by
      simp only [execOp, ho, resolve, hx]
      kernel_rfl
    rw [hrun, Oper.upon_enter]
    refine (elen_any _ s e.t w).mono fun r w' hh => ?_
    obtain ⟨rfl, h2⟩ := hh
    exact hK _ _ (h w' h2)
  · rw [pieceQ_3 hk] at hx
    rw [len5_3 (.inl hk)] at h
    have hrun : (execOp a.eval o).run Tryz.prog w = .ok (.enter 132 #[.agg #[s, .int .i64 e.c]]) w := by
      simp only [execOp, ho, resolve, hx]
      kernel_rfl
    rw [hrun, Oper.upon_enter]
    refine (rlen_any s _ w).mono fun r w' hh => ?_
    obtain ⟨rfl, h2⟩ := hh
    exact hK _ _ (h w' h2)
  · rw [pieceQ_4 hk] at hx
    rw [len5_3 (.inr hk)] at h
    have hrun : (execOp a.eval o).run Tryz.prog w = .ok (.enter 134 #[.agg #[.int .i64 e.c]]) w := by
      simp only [execOp, ho, resolve, hx]
      kernel_rfl
    rw [hrun, Oper.upon_enter]
    refine (dlen_any _ w).mono fun r w' hh => ?_
    obtain ⟨rfl, h2⟩ := hh
    exact hK _ _ (h w' h2)

set_option maxHeartbeats 2000000 in
set_option maxRecDepth 100000 in
theorem newW_any {B1 B2 : Nat} (v : Value) (E : List Op5) (w : World) (h : DelV w B1 B2 v E) (hg : ∀ o ∈ E, opE o = 0) (hA : ∀ o ∈ E, o.A.length ≤ 2097152) (hl : E.length ≤ 4194304) :
    Calls Tryz.prog 26 #[v] w fun r w' => ∃ q g, r = .returned (.pointer (some ⟨q, 0, none⟩)) ∧ WkV w' w.heap.size q g E ∧ (E ≠ [] → g < w'.heap.size) ∧ Below w.heap.size w w' := by
  have c := pieces_any v E w h hg hA hl
  clear h hg hA hl
  go_enter Tryz.func26, Tryz.ntmps26
  go_wp2_with fail
  refine c.mono ?_; rintro r w2 ⟨v', rfl, ⟨P, own, pie⟩, b2⟩
  obtain ⟨g, hw, hgl⟩ := wk_new own pie b2.size
  have HGL : Hid (E ≠ [] → g < (w2.alloc (.cells #[v'] 84)).heap.size) := fun h => by rw [World.size_alloc]; have := hgl h; omega
  have HW : Hid (WkV (w2.alloc (.cells #[v'] 84)) w.heap.size w2.heap.size g E) := hw
  have b3 := b2.trans (((Below.refl _ w2).alloc (Nat.le_refl _) (.cells #[v'] 84)).mono b2.size)
  obtain ⟨p, n, rfl⟩ := own_slice own
  clear c own pie hw b2 hgl
  go_wp2
  go_ret
  exact ⟨_, g, rfl, HW.out, HGL.out, b3⟩
theorem doneW_any {B q g : Nat} {R : List Op5} (w : World) (h : WkV w B q g R) :
    Calls Tryz.prog 61 #[.pointer (some ⟨q, 0, none⟩)] w fun r w' => r = .returned (.bool (decide (R = []))) ∧ Below w.heap.size w w' := by
  obtain ⟨p, cap, c0, f0, hc⟩ := h.read0
  cases R with
  | nil =>
    clear h
    have e0 : ((0 : Int) == 0) = true := rfl
    go_enter Tryz.func61, Tryz.ntmps61
    go_wp2
    go_ret
    exact ⟨rfl, Below.refl _ _⟩
  | cons x r =>
    rw [List.length_cons] at c0
    have e0 : (((r.length + 1 : Nat) : Int) == 0) = false := beq_eq_false_iff_ne.2 (by omega)
    obtain ⟨n, hn⟩ : ∃ n, r.length + 1 = n := ⟨_, rfl⟩
    rw [hn] at c0 e0
    clear h hn hc
    go_enter Tryz.func61, Tryz.ntmps61
    go_wp2
    go_ret
    exact ⟨rfl, Below.refl _ _⟩
end Go.Proofs.YtgimcloadjjefabGreatDoor

/- measure: gathered: pieces of deltas put into one. -/
namespace Go.Proofs.YtgimcloadjjefabGreatDoor
open Go Go.RowKit Go.Lib
set_option linter.unusedVariables false

/-- Do the lengths of all together keep the bound? -/
def Fits8 (E : List Op5) : Prop := sumB E ≤ 1099511627776 ∧ sumR E ≤ 1099511627776
theorem fits_front {E F : List Op5} (hw : ∀ o ∈ F, Wel o) (h : Fits8 (E ++ F)) : Fits8 E := by
  have := sums_nn hw
  unfold Fits8 at h ⊢
  rw [sumB_append, sumR_append] at h
  omega
set_option maxHeartbeats 4000000 in
set_option maxRecDepth 100000 in
theorem gath8_any {I : List Nat} {a : Nat → Addr} {B1 B2 : Nat} (v : Value) (PL : List Value) (E : List Op5) (w : World) (hI : ∀ i ∈ IxO, i ∈ I) (hS : Std I a w) (hv : OwnI w B1 v PL) (hp : PieD w B2 PL E) (hg : ∀ o ∈ E, opE o = 0) (hF : ∀ o ∈ E, FitA o) (hl : E.length ≤ 2097152) (ht : txtS E ≤ 8388608) :
    Calls Tryz.prog 28 #[v] w fun r w' => ∃ dv er, r = .returned (.tuple #[dv, er]) ∧ (Fits8 E → er = .nilIface ∧ DelV w' w.heap.size w.heap.size dv (canonL E)) ∧ (¬ Fits8 E → er = errV a 10 ∧ dv = .pointer none) ∧ Below w.heap.size w w' := by
  obtain ⟨p, cap, rfl, hrd⟩ := del_read (q := 0) hv hp
  have cN := new_any (B := w.heap.size) (D := fun k => k < w.heap.size) w (Nat.le_refl _) (by omega)
  have HR : Hid (∀ k, k < E.length → ∃ ga e s, p = some ⟨ga, 0, none⟩ ∧ E[k]? = some e ∧ w.cell? ⟨ga, k, none⟩ = some (pieceQ e s) ∧ OwnA w B2 s e.A) := hrd
  have HF : Hid ((∀ o ∈ E, opE o = 0) ∧ (∀ o ∈ E, FitA o) ∧ txtS E ≤ 8388608 ∧ ∀ o ∈ E, Wel o) := ⟨hg, hF, ht, fun o ho => wel_of (hg o ho)⟩
  have hfit := fitA_all hF ht
  have HK : Hid (∀ W (k : Nat) e v5, Below w.heap.size w W → E[k]? = some e → RN W v5 e.A → (∃ p c, v5 = .slice p e.A.length c) → ∀ g F, Gath W w.heap.size (fun k => k < w.heap.size) g F → (OkE F → (1099511627776 < sumB F + baseO e ∨ 1099511627776 < sumR F + resO e) → Calls Tryz.prog 38 #[.pointer (some ⟨g, 0, none⟩), opV e v5] W fun r w' => r = .returned (errV a 10) ∧ Below W.heap.size W w') ∧ (OkE (F ++ [e]) → Calls Tryz.prog 38 #[.pointer (some ⟨g, 0, none⟩), opV e v5] W fun r w' => r = .returned .nilIface ∧ Gath w' w.heap.size (fun k => k < w.heap.size) g (F ++ [e]) ∧ FrB w.heap.size (fun k => k < w.heap.size) W w')) := fun W k e v5 hW he hR ⟨p, c, e5⟩ g F hG => by
    subst e5
    have fe := hfit e (List.mem_of_getElem? he)
    exact ⟨fun h0 hov => pushB_long e _ _ _ W hI (hS.below hW) hR fe (hg e (List.mem_of_getElem? he)) hG h0 hov, fun hO => pushB_ok e _ _ _ W hI (hS.below hW) hR fe hG hO (fun k hk => Nat.lt_of_lt_of_le hk hW.size)⟩
  obtain ⟨n, hn⟩ : ∃ n, E.length = n := ⟨_, rfl⟩
  have HN : Hid (E.length = n) := hn
  obtain ⟨g, hgs⟩ : ∃ g, w.heap.size = g := ⟨_, rfl⟩
  have HGS : Hid (w.heap.size = g) := hgs
  have cN' : Calls Tryz.prog 32 #[] w fun e w' => e = .returned (.pointer (some ⟨g, 0, none⟩)) ∧ Gath w' w.heap.size (fun k => k < w.heap.size) g [] ∧ Below w.heap.size w w' := by rw [← hgs]; exact cN
  rw [hn] at hl HR ⊢
  clear hn hv hp hg hF hS ht cN hgs hrd hfit
  go_enter Tryz.func28, Tryz.ntmps28
  go_wp2_with fail
  refine cN'.mono ?_; rintro r w1 ⟨rfl, hg1, hb1⟩
  have HG1 : Hid (Gath w1 w.heap.size (fun k => k < w.heap.size) g []) := hg1
  clear cN' hg1
  go_wp2
  go_loopw [11] (fun i wr => ∃ (k : Nat), k ≤ n ∧ i = .int .i64 k ∧ Hid (Gath wr w.heap.size (fun k => k < w.heap.size) g (E.take k)) ∧ Hid (OkE (E.take k)) ∧ Below w.heap.size w wr) (fun i _ => n - (RowKit.intOf i).toNat)
  case atStart => exact ⟨0, Nat.zero_le _, rfl, by rw [List.take_zero]; exact HG1, by rw [List.take_zero]; exact OkE.nil, hb1⟩
  case round =>
    clear HG1 hb1
    obtain ⟨k, hk, rfl, HG, HO, hbw⟩ := hrel
    by_cases hlt : k < n
    · have hltI : (k : Int) < n := by omega
      obtain ⟨ga, e, s, rfl, he, hc, hs⟩ := HR.out k hlt
      have c2 := (hbw.cell (lt_of_cell hc)).trans hc
      have hR2 := own_RN (owns_below hs hbw)
      have hmem := List.mem_of_getElem? he
      have hge := HF.out.1 e hmem
      have hA2 : e.A.length ≤ 2097152 := by have := (HF.out.2.1 e hmem).n; omega
      obtain ⟨u, x, hux⟩ := pieceQ_if e s
      have HU : Hid (pieceQ e s = .iface u x) := hux
      have HT : Hid (E.take (k + 1) = E.take k ++ [e] ∧ E[k]? = some e) := by refine ⟨?_, he⟩; rw [List.take_add_one, he]; rfl
      rw [hux] at c2
      by_cases hov : sumB (E.take k) + baseO e ≤ 1099511627776 ∧ sumR (E.take k) + resO e ≤ 1099511627776
      · have HO2 : Hid (OkE (E.take (k + 1))) := by
          show OkE _
          have htk := txtS_take E (k + 1)
          rw [HT.out.1] at htk ⊢
          exact okE_snoc HO.out (refE_zero.2 ⟨hge, hov⟩) (HF.out.2.1 e hmem) (Nat.le_trans htk HF.out.2.2.1) (by simp; omega)
        have HP : Hid (∀ v5 w5, OwnA w5 wr.heap.size v5 e.A → Below wr.heap.size wr w5 → Calls Tryz.prog 38 #[.pointer (some ⟨g, 0, none⟩), opV e v5] w5 fun r w' => r = .returned .nilIface ∧ Hid (Gath w' w.heap.size (fun k => k < w.heap.size) g (E.take (k + 1))) ∧ Below w.heap.size w w') := fun v5 w5 o5 b5 => by
          have b := hbw.trans (b5.mono hbw.size)
          have := (HK.out w5 k e v5 b HT.out.2 (own_RN o5) (own_slice o5) g (E.take k) (BldE.below HG.out b5)).2 (by rw [← HT.out.1]; exact HO2.out)
          rw [← HT.out.1] at this
          exact this.mono fun r w' ⟨h1, h2, h3⟩ => ⟨h1, h2, b.trans h3.below⟩
        clear HG HO he hc hs hux HT hov hmem hbw
        go_wp2_with (refine wpList_opP rfl (.tmp 16) rfl e s HU.out.symm hge hR2 hA2 ?_; intro v5 w5 own5 hb5)
        refine (HP.out v5 w5 own5 hb5).mono ?_; rintro r w6 ⟨rfl, HG6, b6⟩
        clear HP own5 hb5 c2
        go_wp2
        go_roundw
        case rel => exact ⟨k + 1, by omega, by go_num, HG6, HO2, b6⟩
        case measure => simp [RowKit.intOf]; omega
      · have HB : Hid (¬ Fits8 E) := fun h => hov (by
          have h2 := fits_front (E := E.take (k + 1)) (F := E.drop (k + 1)) (fun o ho => HF.out.2.2.2 o (List.mem_of_mem_drop ho)) (by rw [List.take_append_drop]; exact h)
          unfold Fits8 at h2
          rw [HT.out.1, sumB_append, sumB_one, sumR_append, sumR_one] at h2
          exact h2)
        have HP : Hid (∀ v5 w5, OwnA w5 wr.heap.size v5 e.A → Below wr.heap.size wr w5 → Calls Tryz.prog 38 #[.pointer (some ⟨g, 0, none⟩), opV e v5] w5 fun r w' => r = .returned (errV a 10) ∧ Below w.heap.size w w') := fun v5 w5 o5 b5 => by
          have b := hbw.trans (b5.mono hbw.size)
          have := (HK.out w5 k e v5 b HT.out.2 (own_RN o5) (own_slice o5) g (E.take k) (BldE.below HG.out b5)).1 HO.out (by omega)
          exact this.mono fun r w' ⟨h1, h2⟩ => ⟨h1, b.trans (h2.mono b.size)⟩
        clear HG HO he hc hs hux HT hov hmem hbw
        go_wp2_with (refine wpList_opP rfl (.tmp 16) rfl e s HU.out.symm hge hR2 hA2 ?_; intro v5 w5 own5 hb5)
        refine (HP.out v5 w5 own5 hb5).mono ?_; rintro r w6 ⟨rfl, b6⟩
        clear HP own5 hb5 c2
        go_wp2
        go_ret2
        exact ⟨.pointer none, errV a 10, rfl, fun h => absurd h HB.out, fun _ => ⟨rfl, rfl⟩, b6⟩
    · have hltI : ¬ (k : Int) < n := by omega
      have hE : E.take k = E := List.take_of_length_le (by rw [HN.out]; omega)
      rw [hE] at HG HO
      have HB : Hid (Fits8 E) := ⟨HO.out.base, HO.out.res⟩
      have cD := delta_any wr HG.out HO.out
      clear hE HG HO
      go_wp2_with fail
      refine cD.mono ?_; rintro r w5 ⟨dv, rfl, h5, hb5⟩
      have H5 : Hid (DelV w5 w.heap.size w.heap.size dv (canonL E)) := by
        obtain ⟨q, pv, PL, x1, x2, x3, x4, x5⟩ := h5
        exact ⟨q, pv, PL, x1, Nat.le_trans hbw.size x2, x3, own_weaken x4 hbw.size, x5⟩
      have b5 := hbw.trans (hb5.mono hbw.size)
      clear cD h5 hb5
      go_wp2
      go_ret2
      exact ⟨dv, .nilIface, rfl, fun _ => ⟨rfl, H5.out⟩, fun h => absurd HB.out h, b5⟩
end Go.Proofs.YtgimcloadjjefabGreatDoor

/- What the reference of layer 1 answers: Scalar, Encode (and what its decoder needs: places, numbers, owned rows of numbers). -/
namespace Go.Proofs.YtgimcloadjjefabGreatDoor
open Go Go.RowKit Go.Lib
set_option linter.unusedVariables false


def isScal (z : Int) : Prop := (0 ≤ z ∧ z < 55296) ∨ (57344 ≤ z ∧ z ≤ 1114111)

def ints (rs : List Nat) : List Int := rs.map fun (r : Nat) => ((r : Nat) : Int)
theorem ints_length (rs : List Nat) : (ints rs).length = rs.length := by simp [ints]
def cells32 (zs : List Int) : List Value := zs.map fun z => .int .i32 z

/-- A slice of numbers that lies in memory made since B. -/
abbrev Own32 (B : Nat) (w : World) (v : Value) (zs : List Int) : Prop := w.ownsRow B 21 1 v zs.length (cells32 zs)

theorem info32 : ∃ i z, Tryz.prog.info? 21 = some i ∧ i.zero = some z ∧ i.size = 1 ∧ i.bytes = 4 ∧ z.cells.size = 1 := by
  obtain ⟨i, hi, h⟩ := Option.map_eq_some_iff.1 (show (Tryz.prog.info? 21).map (fun i => (i.zero, i.size, i.bytes)) = some (some (.int .i32 0), 1, 4) by kernel_rfl)
  simp only [Prod.mk.injEq] at h
  exact ⟨i, _, hi, h.1, h.2.1, h.2.2, rfl⟩

theorem ref_scal_yes (z : Int) (h : isScal z) (w : World) : Calls Tryz.prog 102 #[.int .i32 z] w fun e w' => e = .returned (.bool true) ∧ w' = w := by
  rcases h with ⟨h1, h2⟩ | ⟨h1, h2⟩
  · have f1 : decide (z ≥ 0) = true := decide_eq_true h1
    have f2 : decide (z < 55296) = true := decide_eq_true h2
    go_enter Tryz.func102, Tryz.ntmps102
    go_wp2
    go_ret
    exact ⟨rfl, rfl⟩
  · have f1 : decide (z ≥ 0) = true := decide_eq_true (by omega)
    have f2 : decide (z < 55296) = false := decide_eq_false (by omega)
    have f3 : decide (z ≥ 57344) = true := decide_eq_true h1
    have f4 : decide (z ≤ 1114111) = true := decide_eq_true h2
    go_enter Tryz.func102, Tryz.ntmps102
    go_wp2
    go_ret
    exact ⟨rfl, rfl⟩

theorem ref_scal_no (z : Int) (h : ¬ isScal z) (w : World) : Calls Tryz.prog 102 #[.int .i32 z] w fun e w' => e = .returned (.bool false) ∧ w' = w := by
  unfold isScal at h
  by_cases h0 : z < 0
  · have f1 : decide (z ≥ 0) = false := decide_eq_false (by omega)
    have f3 : decide (z ≥ 57344) = false := decide_eq_false (by omega)
    clear h
    go_enter Tryz.func102, Tryz.ntmps102
    go_wp2
    go_ret
    exact ⟨rfl, rfl⟩
  by_cases h1 : z < 57344
  · have f1 : decide (z ≥ 0) = true := decide_eq_true (by omega)
    have f2 : decide (z < 55296) = false := decide_eq_false (by omega)
    have f3 : decide (z ≥ 57344) = false := decide_eq_false (by omega)
    clear h
    go_enter Tryz.func102, Tryz.ntmps102
    go_wp2
    go_ret
    exact ⟨rfl, rfl⟩
  · have f1 : decide (z ≥ 0) = true := decide_eq_true (by omega)
    have f2 : decide (z < 55296) = false := decide_eq_false (by omega)
    have f3 : decide (z ≥ 57344) = true := decide_eq_true (by omega)
    have f4 : decide (z ≤ 1114111) = false := decide_eq_false (by omega)
    clear h
    go_enter Tryz.func102, Tryz.ntmps102
    go_wp2
    go_ret
    exact ⟨rfl, rfl⟩

def b8 (z : Int) : UInt8 := z.toNat.toUInt8

theorem conv1 (a : Int) (w : World) : (convert 93 9 (.slice (some ⟨w.heap.size, 0, none⟩) 1 1)).run Tryz.prog (w.alloc (.cells #[.int .u8 a] 5)) = .ok (.string ⟨#[b8 a]⟩) (w.alloc (.cells #[.int .u8 a] 5)) := by
  have := run_convert_bytes_arg (P := Tryz.prog) (w.alloc (.cells #[.int .u8 a] 5)) 93 5 Tryz.underlying93 Tryz.underlying5 w.heap.size 0 1 1 [a] rfl (fun i hi => by
    match i, hi with
    | 0, _ => simp) 9 Tryz.underlying9
  exact this
theorem conv2 (a b : Int) (w : World) : (convert 93 9 (.slice (some ⟨w.heap.size, 0, none⟩) 2 2)).run Tryz.prog (w.alloc (.cells #[.int .u8 a, .int .u8 b] 5)) = .ok (.string ⟨#[b8 a, b8 b]⟩) (w.alloc (.cells #[.int .u8 a, .int .u8 b] 5)) := by
  have := run_convert_bytes_arg (P := Tryz.prog) (w.alloc (.cells #[.int .u8 a, .int .u8 b] 5)) 93 5 Tryz.underlying93 Tryz.underlying5 w.heap.size 0 2 2 [a, b] rfl (fun i hi => by
    match i, hi with
    | 0, _ => simp
    | 1, _ => simp) 9 Tryz.underlying9
  exact this
theorem conv3 (a b c : Int) (w : World) : (convert 93 9 (.slice (some ⟨w.heap.size, 0, none⟩) 3 3)).run Tryz.prog (w.alloc (.cells #[.int .u8 a, .int .u8 b, .int .u8 c] 5)) = .ok (.string ⟨#[b8 a, b8 b, b8 c]⟩) (w.alloc (.cells #[.int .u8 a, .int .u8 b, .int .u8 c] 5)) := by
  have := run_convert_bytes_arg (P := Tryz.prog) (w.alloc (.cells #[.int .u8 a, .int .u8 b, .int .u8 c] 5)) 93 5 Tryz.underlying93 Tryz.underlying5 w.heap.size 0 3 3 [a, b, c] rfl (fun i hi => by
    match i, hi with
    | 0, _ => simp
    | 1, _ => simp
    | 2, _ => simp) 9 Tryz.underlying9
  exact this
theorem conv4 (a b c d : Int) (w : World) : (convert 93 9 (.slice (some ⟨w.heap.size, 0, none⟩) 4 4)).run Tryz.prog (w.alloc (.cells #[.int .u8 a, .int .u8 b, .int .u8 c, .int .u8 d] 5)) = .ok (.string ⟨#[b8 a, b8 b, b8 c, b8 d]⟩) (w.alloc (.cells #[.int .u8 a, .int .u8 b, .int .u8 c, .int .u8 d] 5)) := by
  have := run_convert_bytes_arg (P := Tryz.prog) (w.alloc (.cells #[.int .u8 a, .int .u8 b, .int .u8 c, .int .u8 d] 5)) 93 5 Tryz.underlying93 Tryz.underlying5 w.heap.size 0 4 4 [a, b, c, d] rfl (fun i hi => by
    match i, hi with
    | 0, _ => simp
    | 1, _ => simp
    | 2, _ => simp
    | 3, _ => simp) 9 Tryz.underlying9
  exact this

theorem ref_encode (r : Nat) (h : scal r) (w : World) : Calls Tryz.prog 103 #[.int .i32 r] w fun e w' => e = .returned (.string ⟨(enc r).toArray⟩) ∧ Below w.heap.size w w' := by
  have hr : (r : Int) ≤ 1114111 := by unfold scal at h; omega
  have g1 := conv1
  have g2 := conv2
  have g3 := conv3
  have g4 := conv4
  by_cases h1 : r < 128
  · have f1 : (r : Int) < 128 := by omega
    have HE : Hid (enc r = _) := enc_one h1
    clear h g2 g3 g4
    go_enter Tryz.func103, Tryz.ntmps103
    go_wp2
    go_ret
    rw [HE.out]
    exact ⟨rfl, (Below.refl _ _).alloc (Nat.le_refl _) _⟩
  by_cases h2 : r < 2048
  · have f1 : ¬ (r : Int) < 128 := by omega
    have f2 : (r : Int) < 2048 := by omega
    have HE : Hid (enc r = _) := enc_two (by omega) h2
    clear h g1 g3 g4
    go_enter Tryz.func103, Tryz.ntmps103
    go_wp2
    go_ret
    rw [HE.out]
    exact ⟨rfl, (Below.refl _ _).alloc (Nat.le_refl _) _⟩
  by_cases h3 : r < 65536
  · have f1 : ¬ (r : Int) < 128 := by omega
    have f2 : ¬ (r : Int) < 2048 := by omega
    have f3 : (r : Int) < 65536 := by omega
    have HE : Hid (enc r = _) := enc_three (by omega) h3 h
    clear h g1 g2 g4
    go_enter Tryz.func103, Tryz.ntmps103
    go_wp2
    go_ret
    rw [HE.out]
    exact ⟨rfl, (Below.refl _ _).alloc (Nat.le_refl _) _⟩
  · have f1 : ¬ (r : Int) < 128 := by omega
    have f2 : ¬ (r : Int) < 2048 := by omega
    have f3 : ¬ (r : Int) < 65536 := by omega
    have HE : Hid (enc r = _) := enc_four (by omega) (by omega)
    clear h g1 g2 g3
    go_enter Tryz.func103, Tryz.ntmps103
    go_wp2
    go_ret
    rw [HE.out]
    exact ⟨rfl, (Below.refl _ _).alloc (Nat.le_refl _) _⟩

end Go.Proofs.YtgimcloadjjefabGreatDoor

/- What the reference's first answers: the scalar with whose encoding a text begins at a place. -/
namespace Go.Proofs.YtgimcloadjjefabGreatDoor
open Go Go.RowKit Go.Lib Go.PlainAid Go.Sort
set_option linter.unusedVariables false

theorem ne_list {a b : ByteArray} (h : ¬ a = b) : (a.toList == b.toList) = false := by
  rw [toList_data, toList_data]
  refine beq_eq_false_iff_ne.2 fun e => h ?_
  apply ByteArray.ext
  exact Array.ext' e

set_option maxHeartbeats 1000000 in
set_option maxRecDepth 100000 in
theorem rf1_non (s : ByteArray) (k : Nat) (w : World) (hs : s.size ≤ 140737488351232) (hk : k < s.size) (h0 : bt s k < 192) (hI : k + 1 ≤ s.size) (Z : Int) (hz : bt s k = Z) (hn : ¬ isScal Z) :
    Calls Tryz.prog 90 #[.string s, .int .i64 k] w fun e w' => e = .returned (.tuple #[.int .i32 0, .int .i64 0]) ∧ Below w.heap.size w w' := by
  have q0 := bt_nonneg s k
  have r0 := bt_le s k
  have c0 : ¬ bt s k ≥ 240 := by omega
  have c1 : ¬ bt s k ≥ 224 := by omega
  have c2 : ¬ bt s k ≥ 192 := by omega
  have hI' : (k : Int) + 1 ≤ s.size := by omega
  unfold isScal at hn
  exfalso; omega

set_option maxHeartbeats 1000000 in
set_option maxRecDepth 100000 in
theorem rf1_same (s : ByteArray) (k : Nat) (w : World) (hs : s.size ≤ 140737488351232) (hk : k < s.size) (h0 : bt s k < 192) (hI : k + 1 ≤ s.size) (R : Nat) (hr : scal R) (Z : Int) (hZ : Z = R) (hz : bt s k = Z) (hX : s.extract k (k + 1) = ⟨(enc R).toArray⟩) :
    Calls Tryz.prog 90 #[.string s, .int .i64 k] w fun e w' => e = .returned (.tuple #[.int .i32 Z, .int .i64 1]) ∧ Below w.heap.size w w' := by
  have hb := get_bt s
  have q0 := bt_nonneg s k
  have r0 := bt_le s k
  have c0 : ¬ bt s k ≥ 240 := by omega
  have c1 : ¬ bt s k ≥ 224 := by omega
  have c2 : ¬ bt s k ≥ 192 := by omega
  have hI' : (k : Int) + 1 ≤ s.size := by omega
  obtain ⟨E, hE⟩ : ∃ E : ByteArray, ⟨(enc R).toArray⟩ = E := ⟨_, rfl⟩
  have henc := fun W => ref_encode R hr W
  rw [← hZ] at henc
  rw [hE] at hX henc
  have hz0 : (0 : Int) ≤ Z := by omega
  clear h0 hE
  unfold scal at hr
  by_cases hm : R < 55296
  · have g0 : decide (Z ≥ 0) = true := decide_eq_true (by omega)
    have g1 : decide (Z < 55296) = true := decide_eq_true (by omega)
    clear hr hm hZ
    go_enter Tryz.func90, Tryz.ntmps90
    go_wp2
    go_rounds 4
    have hkI : (0 : Int) ≤ k ∧ (k : Int) ≤ k + 1 := by omega
    clear hb q0 r0 c0 c1 c2 hz hz0
    have cE : ∀ d os, Calls Tryz.prog 103 #[.int .i32 Z] (grow (redrawn w d) os) fun e w'' => e = .returned (.string E) ∧ ∃ p : Regrown, w'' = grow (redrawn w p.d) p.os := fun d os => Calls.regrown_of (henc _)
    clear henc
    refine wp_region_quiet_below (by kernel_rfl) (by kernel_rfl) ?_
    repeat (first | go_big_quiet_step (exact cE _ _) | quiet_step (exact cE _ _))
    refine wpQuiet_nil ?_
    intro _ hw'
    obtain ⟨⟨dq, osq⟩, hw''⟩ := hw'
    subst hw''
    go_wp2
    go_ret2
    exact ⟨rfl, below_regrown w dq osq⟩
  · have g0 : decide (Z ≥ 0) = true := decide_eq_true (by omega)
    have g1 : decide (Z < 55296) = false := decide_eq_false (by omega)
    have g2 : decide (Z ≥ 57344) = true := decide_eq_true (by omega)
    have g3 : decide (Z ≤ 1114111) = true := decide_eq_true (by omega)
    clear hr hm hZ
    go_enter Tryz.func90, Tryz.ntmps90
    go_wp2
    go_rounds 4
    have hkI : (0 : Int) ≤ k ∧ (k : Int) ≤ k + 1 := by omega
    clear hb q0 r0 c0 c1 c2 hz hz0
    have cE : ∀ d os, Calls Tryz.prog 103 #[.int .i32 Z] (grow (redrawn w d) os) fun e w'' => e = .returned (.string E) ∧ ∃ p : Regrown, w'' = grow (redrawn w p.d) p.os := fun d os => Calls.regrown_of (henc _)
    clear henc
    refine wp_region_quiet_below (by kernel_rfl) (by kernel_rfl) ?_
    repeat (first | go_big_quiet_step (exact cE _ _) | quiet_step (exact cE _ _))
    refine wpQuiet_nil ?_
    intro _ hw'
    obtain ⟨⟨dq, osq⟩, hw''⟩ := hw'
    subst hw''
    go_wp2
    go_ret2
    exact ⟨rfl, below_regrown w dq osq⟩

set_option maxHeartbeats 1000000 in
set_option maxRecDepth 100000 in
theorem rf1_other (s : ByteArray) (k : Nat) (w : World) (hs : s.size ≤ 140737488351232) (hk : k < s.size) (h0 : bt s k < 192) (hI : k + 1 ≤ s.size) (R : Nat) (hr : scal R) (Z : Int) (hZ : Z = R) (hz : bt s k = Z) (hX : ¬ ⟨(enc R).toArray⟩ = s.extract k (k + 1)) :
    Calls Tryz.prog 90 #[.string s, .int .i64 k] w fun e w' => e = .returned (.tuple #[.int .i32 0, .int .i64 0]) ∧ Below w.heap.size w w' := by
  have hb := get_bt s
  have q0 := bt_nonneg s k
  have r0 := bt_le s k
  have c0 : ¬ bt s k ≥ 240 := by omega
  have c1 : ¬ bt s k ≥ 224 := by omega
  have c2 : ¬ bt s k ≥ 192 := by omega
  have hI' : (k : Int) + 1 ≤ s.size := by omega
  obtain ⟨E, hE⟩ : ∃ E : ByteArray, ⟨(enc R).toArray⟩ = E := ⟨_, rfl⟩
  have henc := fun W => ref_encode R hr W
  rw [← hZ] at henc
  rw [hE] at hX henc
  have hXl := ne_list hX
  have hz0 : (0 : Int) ≤ Z := by omega
  clear h0 hE
  unfold scal at hr
  by_cases hm : R < 55296
  · have g0 : decide (Z ≥ 0) = true := decide_eq_true (by omega)
    have g1 : decide (Z < 55296) = true := decide_eq_true (by omega)
    clear hr hm hZ
    go_enter Tryz.func90, Tryz.ntmps90
    go_wp2
    go_rounds 4
    have hkI : (0 : Int) ≤ k ∧ (k : Int) ≤ k + 1 := by omega
    clear hb q0 r0 c0 c1 c2 hz hz0
    have cE : ∀ d os, Calls Tryz.prog 103 #[.int .i32 Z] (grow (redrawn w d) os) fun e w'' => e = .returned (.string E) ∧ ∃ p : Regrown, w'' = grow (redrawn w p.d) p.os := fun d os => Calls.regrown_of (henc _)
    clear henc
    refine wp_region_quiet_below (by kernel_rfl) (by kernel_rfl) ?_
    repeat (first | go_big_quiet_step (exact cE _ _) | quiet_step (exact cE _ _))
    refine wpQuiet_nil ?_
    intro _ hw'
    obtain ⟨⟨dq, osq⟩, hw''⟩ := hw'
    subst hw''
    go_wp2
    go_ret2
    exact ⟨rfl, below_regrown w dq osq⟩
  · have g0 : decide (Z ≥ 0) = true := decide_eq_true (by omega)
    have g1 : decide (Z < 55296) = false := decide_eq_false (by omega)
    have g2 : decide (Z ≥ 57344) = true := decide_eq_true (by omega)
    have g3 : decide (Z ≤ 1114111) = true := decide_eq_true (by omega)
    clear hr hm hZ
    go_enter Tryz.func90, Tryz.ntmps90
    go_wp2
    go_rounds 4
    have hkI : (0 : Int) ≤ k ∧ (k : Int) ≤ k + 1 := by omega
    clear hb q0 r0 c0 c1 c2 hz hz0
    have cE : ∀ d os, Calls Tryz.prog 103 #[.int .i32 Z] (grow (redrawn w d) os) fun e w'' => e = .returned (.string E) ∧ ∃ p : Regrown, w'' = grow (redrawn w p.d) p.os := fun d os => Calls.regrown_of (henc _)
    clear henc
    refine wp_region_quiet_below (by kernel_rfl) (by kernel_rfl) ?_
    repeat (first | go_big_quiet_step (exact cE _ _) | quiet_step (exact cE _ _))
    refine wpQuiet_nil ?_
    intro _ hw'
    obtain ⟨⟨dq, osq⟩, hw''⟩ := hw'
    subst hw''
    go_wp2
    go_ret2
    exact ⟨rfl, below_regrown w dq osq⟩

theorem rf2_out (s : ByteArray) (k : Nat) (w : World) (hs : s.size ≤ 140737488351232) (hk : k < s.size) (h0 : 192 ≤ bt s k) (h1 : bt s k < 224) (ho : s.size < k + 2) :
    Calls Tryz.prog 90 #[.string s, .int .i64 k] w fun e w' => e = .returned (.tuple #[.int .i32 0, .int .i64 0]) ∧ Below w.heap.size w w' := by
  have hb := get_bt s
  have q0 := bt_nonneg s k
  have r0 := bt_le s k
  have c0 : ¬ bt s k ≥ 240 := by omega
  have c1 : ¬ bt s k ≥ 224 := by omega
  have c2 : bt s k ≥ 192 := by omega
  have hI : ¬ (k : Int) + 2 ≤ s.size := by omega
  clear h0 h1
  go_enter Tryz.func90, Tryz.ntmps90
  go_wp2
  go_ret2
  exact ⟨rfl, Below.refl _ _⟩

set_option maxHeartbeats 1000000 in
set_option maxRecDepth 100000 in
theorem rf2_non (s : ByteArray) (k : Nat) (w : World) (hs : s.size ≤ 140737488351232) (hk : k < s.size) (h0 : 192 ≤ bt s k) (h1 : bt s k < 224) (hI : k + 2 ≤ s.size) (Z : Int) (hz : (bt s k - 192) * 64 + bt s (k + 1) % 64 = Z) (hn : ¬ isScal Z) :
    Calls Tryz.prog 90 #[.string s, .int .i64 k] w fun e w' => e = .returned (.tuple #[.int .i32 0, .int .i64 0]) ∧ Below w.heap.size w w' := by
  have q0 := bt_nonneg s k
  have r0 := bt_le s k
  have q1 := bt_nonneg s (k + 1)
  have r1 := bt_le s (k + 1)
  have c0 : ¬ bt s k ≥ 240 := by omega
  have c1 : ¬ bt s k ≥ 224 := by omega
  have c2 : bt s k ≥ 192 := by omega
  have hI' : (k : Int) + 2 ≤ s.size := by omega
  unfold isScal at hn
  exfalso; omega

set_option maxHeartbeats 1000000 in
set_option maxRecDepth 100000 in
theorem rf2_same (s : ByteArray) (k : Nat) (w : World) (hs : s.size ≤ 140737488351232) (hk : k < s.size) (h0 : 192 ≤ bt s k) (h1 : bt s k < 224) (hI : k + 2 ≤ s.size) (R : Nat) (hr : scal R) (Z : Int) (hZ : Z = R) (hz : (bt s k - 192) * 64 + bt s (k + 1) % 64 = Z) (hX : s.extract k (k + 2) = ⟨(enc R).toArray⟩) :
    Calls Tryz.prog 90 #[.string s, .int .i64 k] w fun e w' => e = .returned (.tuple #[.int .i32 Z, .int .i64 2]) ∧ Below w.heap.size w w' := by
  have hb := get_bt s
  have q0 := bt_nonneg s k
  have r0 := bt_le s k
  have q1 := bt_nonneg s (k + 1)
  have r1 := bt_le s (k + 1)
  have c0 : ¬ bt s k ≥ 240 := by omega
  have c1 : ¬ bt s k ≥ 224 := by omega
  have c2 : bt s k ≥ 192 := by omega
  have hI' : (k : Int) + 2 ≤ s.size := by omega
  obtain ⟨E, hE⟩ : ∃ E : ByteArray, ⟨(enc R).toArray⟩ = E := ⟨_, rfl⟩
  have henc := fun W => ref_encode R hr W
  rw [← hZ] at henc
  rw [hE] at hX henc
  have hz0 : (0 : Int) ≤ Z := by omega
  clear h0 h1 hE
  unfold scal at hr
  by_cases hm : R < 55296
  · have g0 : decide (Z ≥ 0) = true := decide_eq_true (by omega)
    have g1 : decide (Z < 55296) = true := decide_eq_true (by omega)
    clear hr hm hZ
    go_enter Tryz.func90, Tryz.ntmps90
    go_wp2
    go_rounds 4
    have hkI : (0 : Int) ≤ k ∧ (k : Int) ≤ k + 2 := by omega
    clear hb q0 r0 q1 r1 c0 c1 c2 hz hz0
    have cE : ∀ d os, Calls Tryz.prog 103 #[.int .i32 Z] (grow (redrawn w d) os) fun e w'' => e = .returned (.string E) ∧ ∃ p : Regrown, w'' = grow (redrawn w p.d) p.os := fun d os => Calls.regrown_of (henc _)
    clear henc
    refine wp_region_quiet_below (by kernel_rfl) (by kernel_rfl) ?_
    repeat (first | go_big_quiet_step (exact cE _ _) | quiet_step (exact cE _ _))
    refine wpQuiet_nil ?_
    intro _ hw'
    obtain ⟨⟨dq, osq⟩, hw''⟩ := hw'
    subst hw''
    go_wp2
    go_ret2
    exact ⟨rfl, below_regrown w dq osq⟩
  · have g0 : decide (Z ≥ 0) = true := decide_eq_true (by omega)
    have g1 : decide (Z < 55296) = false := decide_eq_false (by omega)
    have g2 : decide (Z ≥ 57344) = true := decide_eq_true (by omega)
    have g3 : decide (Z ≤ 1114111) = true := decide_eq_true (by omega)
    clear hr hm hZ
    go_enter Tryz.func90, Tryz.ntmps90
    go_wp2
    go_rounds 4
    have hkI : (0 : Int) ≤ k ∧ (k : Int) ≤ k + 2 := by omega
    clear hb q0 r0 q1 r1 c0 c1 c2 hz hz0
    have cE : ∀ d os, Calls Tryz.prog 103 #[.int .i32 Z] (grow (redrawn w d) os) fun e w'' => e = .returned (.string E) ∧ ∃ p : Regrown, w'' = grow (redrawn w p.d) p.os := fun d os => Calls.regrown_of (henc _)
    clear henc
    refine wp_region_quiet_below (by kernel_rfl) (by kernel_rfl) ?_
    repeat (first | go_big_quiet_step (exact cE _ _) | quiet_step (exact cE _ _))
    refine wpQuiet_nil ?_
    intro _ hw'
    obtain ⟨⟨dq, osq⟩, hw''⟩ := hw'
    subst hw''
    go_wp2
    go_ret2
    exact ⟨rfl, below_regrown w dq osq⟩

set_option maxHeartbeats 1000000 in
set_option maxRecDepth 100000 in
theorem rf2_other (s : ByteArray) (k : Nat) (w : World) (hs : s.size ≤ 140737488351232) (hk : k < s.size) (h0 : 192 ≤ bt s k) (h1 : bt s k < 224) (hI : k + 2 ≤ s.size) (R : Nat) (hr : scal R) (Z : Int) (hZ : Z = R) (hz : (bt s k - 192) * 64 + bt s (k + 1) % 64 = Z) (hX : ¬ ⟨(enc R).toArray⟩ = s.extract k (k + 2)) :
    Calls Tryz.prog 90 #[.string s, .int .i64 k] w fun e w' => e = .returned (.tuple #[.int .i32 0, .int .i64 0]) ∧ Below w.heap.size w w' := by
  have hb := get_bt s
  have q0 := bt_nonneg s k
  have r0 := bt_le s k
  have q1 := bt_nonneg s (k + 1)
  have r1 := bt_le s (k + 1)
  have c0 : ¬ bt s k ≥ 240 := by omega
  have c1 : ¬ bt s k ≥ 224 := by omega
  have c2 : bt s k ≥ 192 := by omega
  have hI' : (k : Int) + 2 ≤ s.size := by omega
  obtain ⟨E, hE⟩ : ∃ E : ByteArray, ⟨(enc R).toArray⟩ = E := ⟨_, rfl⟩
  have henc := fun W => ref_encode R hr W
  rw [← hZ] at henc
  rw [hE] at hX henc
  have hXl := ne_list hX
  have hz0 : (0 : Int) ≤ Z := by omega
  clear h0 h1 hE
  unfold scal at hr
  by_cases hm : R < 55296
  · have g0 : decide (Z ≥ 0) = true := decide_eq_true (by omega)
    have g1 : decide (Z < 55296) = true := decide_eq_true (by omega)
    clear hr hm hZ
    go_enter Tryz.func90, Tryz.ntmps90
    go_wp2
    go_rounds 4
    have hkI : (0 : Int) ≤ k ∧ (k : Int) ≤ k + 2 := by omega
    clear hb q0 r0 q1 r1 c0 c1 c2 hz hz0
    have cE : ∀ d os, Calls Tryz.prog 103 #[.int .i32 Z] (grow (redrawn w d) os) fun e w'' => e = .returned (.string E) ∧ ∃ p : Regrown, w'' = grow (redrawn w p.d) p.os := fun d os => Calls.regrown_of (henc _)
    clear henc
    refine wp_region_quiet_below (by kernel_rfl) (by kernel_rfl) ?_
    repeat (first | go_big_quiet_step (exact cE _ _) | quiet_step (exact cE _ _))
    refine wpQuiet_nil ?_
    intro _ hw'
    obtain ⟨⟨dq, osq⟩, hw''⟩ := hw'
    subst hw''
    go_wp2
    go_ret2
    exact ⟨rfl, below_regrown w dq osq⟩
  · have g0 : decide (Z ≥ 0) = true := decide_eq_true (by omega)
    have g1 : decide (Z < 55296) = false := decide_eq_false (by omega)
    have g2 : decide (Z ≥ 57344) = true := decide_eq_true (by omega)
    have g3 : decide (Z ≤ 1114111) = true := decide_eq_true (by omega)
    clear hr hm hZ
    go_enter Tryz.func90, Tryz.ntmps90
    go_wp2
    go_rounds 4
    have hkI : (0 : Int) ≤ k ∧ (k : Int) ≤ k + 2 := by omega
    clear hb q0 r0 q1 r1 c0 c1 c2 hz hz0
    have cE : ∀ d os, Calls Tryz.prog 103 #[.int .i32 Z] (grow (redrawn w d) os) fun e w'' => e = .returned (.string E) ∧ ∃ p : Regrown, w'' = grow (redrawn w p.d) p.os := fun d os => Calls.regrown_of (henc _)
    clear henc
    refine wp_region_quiet_below (by kernel_rfl) (by kernel_rfl) ?_
    repeat (first | go_big_quiet_step (exact cE _ _) | quiet_step (exact cE _ _))
    refine wpQuiet_nil ?_
    intro _ hw'
    obtain ⟨⟨dq, osq⟩, hw''⟩ := hw'
    subst hw''
    go_wp2
    go_ret2
    exact ⟨rfl, below_regrown w dq osq⟩

theorem rf3_out (s : ByteArray) (k : Nat) (w : World) (hs : s.size ≤ 140737488351232) (hk : k < s.size) (h0 : 224 ≤ bt s k) (h1 : bt s k < 240) (ho : s.size < k + 3) :
    Calls Tryz.prog 90 #[.string s, .int .i64 k] w fun e w' => e = .returned (.tuple #[.int .i32 0, .int .i64 0]) ∧ Below w.heap.size w w' := by
  have hb := get_bt s
  have q0 := bt_nonneg s k
  have r0 := bt_le s k
  have c0 : ¬ bt s k ≥ 240 := by omega
  have c1 : bt s k ≥ 224 := by omega
  have hI : ¬ (k : Int) + 3 ≤ s.size := by omega
  clear h0 h1
  go_enter Tryz.func90, Tryz.ntmps90
  go_wp2
  go_ret2
  exact ⟨rfl, Below.refl _ _⟩

set_option maxHeartbeats 1000000 in
set_option maxRecDepth 100000 in
theorem rf3_non (s : ByteArray) (k : Nat) (w : World) (hs : s.size ≤ 140737488351232) (hk : k < s.size) (h0 : 224 ≤ bt s k) (h1 : bt s k < 240) (hI : k + 3 ≤ s.size) (Z : Int) (hz : ((bt s k - 224) * 64 + bt s (k + 1) % 64) * 64 + bt s (k + 2) % 64 = Z) (hn : ¬ isScal Z) :
    Calls Tryz.prog 90 #[.string s, .int .i64 k] w fun e w' => e = .returned (.tuple #[.int .i32 0, .int .i64 0]) ∧ Below w.heap.size w w' := by
  have hb := get_bt s
  have q0 := bt_nonneg s k
  have r0 := bt_le s k
  have q1 := bt_nonneg s (k + 1)
  have r1 := bt_le s (k + 1)
  have q2 := bt_nonneg s (k + 2)
  have r2 := bt_le s (k + 2)
  have c0 : ¬ bt s k ≥ 240 := by omega
  have c1 : bt s k ≥ 224 := by omega
  have hI' : (k : Int) + 3 ≤ s.size := by omega
  have hz0 : 0 ≤ Z := by omega
  unfold isScal at hn
  clear h0 h1
  by_cases hm : Z < 57344
  · have g0 : decide (Z ≥ 0) = true := decide_eq_true (by omega)
    have g1 : decide (Z < 55296) = false := decide_eq_false (by omega)
    have g2 : decide (Z ≥ 57344) = false := decide_eq_false (by omega)
    clear hn hm
    go_enter Tryz.func90, Tryz.ntmps90
    go_wp2
    go_rounds 4
    go_quiet (fail)
    go_wp2
    go_ret2
    exact ⟨rfl, below_drewN (Below.refl _ _) _⟩
  · exfalso; omega

set_option maxHeartbeats 1000000 in
set_option maxRecDepth 100000 in
theorem rf3_same (s : ByteArray) (k : Nat) (w : World) (hs : s.size ≤ 140737488351232) (hk : k < s.size) (h0 : 224 ≤ bt s k) (h1 : bt s k < 240) (hI : k + 3 ≤ s.size) (R : Nat) (hr : scal R) (Z : Int) (hZ : Z = R) (hz : ((bt s k - 224) * 64 + bt s (k + 1) % 64) * 64 + bt s (k + 2) % 64 = Z) (hX : s.extract k (k + 3) = ⟨(enc R).toArray⟩) :
    Calls Tryz.prog 90 #[.string s, .int .i64 k] w fun e w' => e = .returned (.tuple #[.int .i32 Z, .int .i64 3]) ∧ Below w.heap.size w w' := by
  have hb := get_bt s
  have q0 := bt_nonneg s k
  have r0 := bt_le s k
  have q1 := bt_nonneg s (k + 1)
  have r1 := bt_le s (k + 1)
  have q2 := bt_nonneg s (k + 2)
  have r2 := bt_le s (k + 2)
  have c0 : ¬ bt s k ≥ 240 := by omega
  have c1 : bt s k ≥ 224 := by omega
  have hI' : (k : Int) + 3 ≤ s.size := by omega
  obtain ⟨E, hE⟩ : ∃ E : ByteArray, ⟨(enc R).toArray⟩ = E := ⟨_, rfl⟩
  have henc := fun W => ref_encode R hr W
  rw [← hZ] at henc
  rw [hE] at hX henc
  have hz0 : (0 : Int) ≤ Z := by omega
  clear h0 h1 hE
  unfold scal at hr
  by_cases hm : R < 55296
  · have g0 : decide (Z ≥ 0) = true := decide_eq_true (by omega)
    have g1 : decide (Z < 55296) = true := decide_eq_true (by omega)
    clear hr hm hZ
    go_enter Tryz.func90, Tryz.ntmps90
    go_wp2
    go_rounds 4
    have hkI : (0 : Int) ≤ k ∧ (k : Int) ≤ k + 3 := by omega
    clear hb q0 r0 q1 r1 q2 r2 c0 c1 hz hz0
    have cE : ∀ d os, Calls Tryz.prog 103 #[.int .i32 Z] (grow (redrawn w d) os) fun e w'' => e = .returned (.string E) ∧ ∃ p : Regrown, w'' = grow (redrawn w p.d) p.os := fun d os => Calls.regrown_of (henc _)
    clear henc
    refine wp_region_quiet_below (by kernel_rfl) (by kernel_rfl) ?_
    repeat (first | go_big_quiet_step (exact cE _ _) | quiet_step (exact cE _ _))
    refine wpQuiet_nil ?_
    intro _ hw'
    obtain ⟨⟨dq, osq⟩, hw''⟩ := hw'
    subst hw''
    go_wp2
    go_ret2
    exact ⟨rfl, below_regrown w dq osq⟩
  · have g0 : decide (Z ≥ 0) = true := decide_eq_true (by omega)
    have g1 : decide (Z < 55296) = false := decide_eq_false (by omega)
    have g2 : decide (Z ≥ 57344) = true := decide_eq_true (by omega)
    have g3 : decide (Z ≤ 1114111) = true := decide_eq_true (by omega)
    clear hr hm hZ
    go_enter Tryz.func90, Tryz.ntmps90
    go_wp2
    go_rounds 4
    have hkI : (0 : Int) ≤ k ∧ (k : Int) ≤ k + 3 := by omega
    clear hb q0 r0 q1 r1 q2 r2 c0 c1 hz hz0
    have cE : ∀ d os, Calls Tryz.prog 103 #[.int .i32 Z] (grow (redrawn w d) os) fun e w'' => e = .returned (.string E) ∧ ∃ p : Regrown, w'' = grow (redrawn w p.d) p.os := fun d os => Calls.regrown_of (henc _)
    clear henc
    refine wp_region_quiet_below (by kernel_rfl) (by kernel_rfl) ?_
    repeat (first | go_big_quiet_step (exact cE _ _) | quiet_step (exact cE _ _))
    refine wpQuiet_nil ?_
    intro _ hw'
    obtain ⟨⟨dq, osq⟩, hw''⟩ := hw'
    subst hw''
    go_wp2
    go_ret2
    exact ⟨rfl, below_regrown w dq osq⟩

set_option maxHeartbeats 1000000 in
set_option maxRecDepth 100000 in
theorem rf3_other (s : ByteArray) (k : Nat) (w : World) (hs : s.size ≤ 140737488351232) (hk : k < s.size) (h0 : 224 ≤ bt s k) (h1 : bt s k < 240) (hI : k + 3 ≤ s.size) (R : Nat) (hr : scal R) (Z : Int) (hZ : Z = R) (hz : ((bt s k - 224) * 64 + bt s (k + 1) % 64) * 64 + bt s (k + 2) % 64 = Z) (hX : ¬ ⟨(enc R).toArray⟩ = s.extract k (k + 3)) :
    Calls Tryz.prog 90 #[.string s, .int .i64 k] w fun e w' => e = .returned (.tuple #[.int .i32 0, .int .i64 0]) ∧ Below w.heap.size w w' := by
  have hb := get_bt s
  have q0 := bt_nonneg s k
  have r0 := bt_le s k
  have q1 := bt_nonneg s (k + 1)
  have r1 := bt_le s (k + 1)
  have q2 := bt_nonneg s (k + 2)
  have r2 := bt_le s (k + 2)
  have c0 : ¬ bt s k ≥ 240 := by omega
  have c1 : bt s k ≥ 224 := by omega
  have hI' : (k : Int) + 3 ≤ s.size := by omega
  obtain ⟨E, hE⟩ : ∃ E : ByteArray, ⟨(enc R).toArray⟩ = E := ⟨_, rfl⟩
  have henc := fun W => ref_encode R hr W
  rw [← hZ] at henc
  rw [hE] at hX henc
  have hXl := ne_list hX
  have hz0 : (0 : Int) ≤ Z := by omega
  clear h0 h1 hE
  unfold scal at hr
  by_cases hm : R < 55296
  · have g0 : decide (Z ≥ 0) = true := decide_eq_true (by omega)
    have g1 : decide (Z < 55296) = true := decide_eq_true (by omega)
    clear hr hm hZ
    go_enter Tryz.func90, Tryz.ntmps90
    go_wp2
    go_rounds 4
    have hkI : (0 : Int) ≤ k ∧ (k : Int) ≤ k + 3 := by omega
    clear hb q0 r0 q1 r1 q2 r2 c0 c1 hz hz0
    have cE : ∀ d os, Calls Tryz.prog 103 #[.int .i32 Z] (grow (redrawn w d) os) fun e w'' => e = .returned (.string E) ∧ ∃ p : Regrown, w'' = grow (redrawn w p.d) p.os := fun d os => Calls.regrown_of (henc _)
    clear henc
    refine wp_region_quiet_below (by kernel_rfl) (by kernel_rfl) ?_
    repeat (first | go_big_quiet_step (exact cE _ _) | quiet_step (exact cE _ _))
    refine wpQuiet_nil ?_
    intro _ hw'
    obtain ⟨⟨dq, osq⟩, hw''⟩ := hw'
    subst hw''
    go_wp2
    go_ret2
    exact ⟨rfl, below_regrown w dq osq⟩
  · have g0 : decide (Z ≥ 0) = true := decide_eq_true (by omega)
    have g1 : decide (Z < 55296) = false := decide_eq_false (by omega)
    have g2 : decide (Z ≥ 57344) = true := decide_eq_true (by omega)
    have g3 : decide (Z ≤ 1114111) = true := decide_eq_true (by omega)
    clear hr hm hZ
    go_enter Tryz.func90, Tryz.ntmps90
    go_wp2
    go_rounds 4
    have hkI : (0 : Int) ≤ k ∧ (k : Int) ≤ k + 3 := by omega
    clear hb q0 r0 q1 r1 q2 r2 c0 c1 hz hz0
    have cE : ∀ d os, Calls Tryz.prog 103 #[.int .i32 Z] (grow (redrawn w d) os) fun e w'' => e = .returned (.string E) ∧ ∃ p : Regrown, w'' = grow (redrawn w p.d) p.os := fun d os => Calls.regrown_of (henc _)
    clear henc
    refine wp_region_quiet_below (by kernel_rfl) (by kernel_rfl) ?_
    repeat (first | go_big_quiet_step (exact cE _ _) | quiet_step (exact cE _ _))
    refine wpQuiet_nil ?_
    intro _ hw'
    obtain ⟨⟨dq, osq⟩, hw''⟩ := hw'
    subst hw''
    go_wp2
    go_ret2
    exact ⟨rfl, below_regrown w dq osq⟩

theorem rf4_out (s : ByteArray) (k : Nat) (w : World) (hs : s.size ≤ 140737488351232) (hk : k < s.size) (h0 : 240 ≤ bt s k) (ho : s.size < k + 4) :
    Calls Tryz.prog 90 #[.string s, .int .i64 k] w fun e w' => e = .returned (.tuple #[.int .i32 0, .int .i64 0]) ∧ Below w.heap.size w w' := by
  have hb := get_bt s
  have q0 := bt_nonneg s k
  have r0 := bt_le s k
  have c0 : bt s k ≥ 240 := by omega
  have hI : ¬ (k : Int) + 4 ≤ s.size := by omega
  clear h0
  go_enter Tryz.func90, Tryz.ntmps90
  go_wp2
  go_ret2
  exact ⟨rfl, Below.refl _ _⟩

set_option maxHeartbeats 1000000 in
set_option maxRecDepth 100000 in
theorem rf4_non (s : ByteArray) (k : Nat) (w : World) (hs : s.size ≤ 140737488351232) (hk : k < s.size) (h0 : 240 ≤ bt s k) (hI : k + 4 ≤ s.size) (Z : Int) (hz : (((bt s k - 240) * 64 + bt s (k + 1) % 64) * 64 + bt s (k + 2) % 64) * 64 + bt s (k + 3) % 64 = Z) (hn : ¬ isScal Z) :
    Calls Tryz.prog 90 #[.string s, .int .i64 k] w fun e w' => e = .returned (.tuple #[.int .i32 0, .int .i64 0]) ∧ Below w.heap.size w w' := by
  have hb := get_bt s
  have q0 := bt_nonneg s k
  have r0 := bt_le s k
  have q1 := bt_nonneg s (k + 1)
  have r1 := bt_le s (k + 1)
  have q2 := bt_nonneg s (k + 2)
  have r2 := bt_le s (k + 2)
  have q3 := bt_nonneg s (k + 3)
  have r3 := bt_le s (k + 3)
  have c0 : bt s k ≥ 240 := by omega
  have hI' : (k : Int) + 4 ≤ s.size := by omega
  have hz0 : 0 ≤ Z := by omega
  unfold isScal at hn
  clear h0
  by_cases hm : Z < 57344
  · have g0 : decide (Z ≥ 0) = true := decide_eq_true (by omega)
    have g1 : decide (Z < 55296) = false := decide_eq_false (by omega)
    have g2 : decide (Z ≥ 57344) = false := decide_eq_false (by omega)
    clear hn hm
    go_enter Tryz.func90, Tryz.ntmps90
    go_wp2
    go_rounds 4
    go_quiet (fail)
    go_wp2
    go_ret2
    exact ⟨rfl, below_drewN (Below.refl _ _) _⟩
  · have g0 : decide (Z ≥ 0) = true := decide_eq_true (by omega)
    have g1 : decide (Z < 55296) = false := decide_eq_false (by omega)
    have g2 : decide (Z ≥ 57344) = true := decide_eq_true (by omega)
    have g3 : decide (Z ≤ 1114111) = false := decide_eq_false (by omega)
    clear hn hm
    go_enter Tryz.func90, Tryz.ntmps90
    go_wp2
    go_rounds 4
    go_quiet (fail)
    go_wp2
    go_ret2
    exact ⟨rfl, below_drewN (Below.refl _ _) _⟩

set_option maxHeartbeats 1000000 in
set_option maxRecDepth 100000 in
theorem rf4_same (s : ByteArray) (k : Nat) (w : World) (hs : s.size ≤ 140737488351232) (hk : k < s.size) (h0 : 240 ≤ bt s k) (hI : k + 4 ≤ s.size) (R : Nat) (hr : scal R) (Z : Int) (hZ : Z = R) (hz : (((bt s k - 240) * 64 + bt s (k + 1) % 64) * 64 + bt s (k + 2) % 64) * 64 + bt s (k + 3) % 64 = Z) (hX : s.extract k (k + 4) = ⟨(enc R).toArray⟩) :
    Calls Tryz.prog 90 #[.string s, .int .i64 k] w fun e w' => e = .returned (.tuple #[.int .i32 Z, .int .i64 4]) ∧ Below w.heap.size w w' := by
  have hb := get_bt s
  have q0 := bt_nonneg s k
  have r0 := bt_le s k
  have q1 := bt_nonneg s (k + 1)
  have r1 := bt_le s (k + 1)
  have q2 := bt_nonneg s (k + 2)
  have r2 := bt_le s (k + 2)
  have q3 := bt_nonneg s (k + 3)
  have r3 := bt_le s (k + 3)
  have c0 : bt s k ≥ 240 := by omega
  have hI' : (k : Int) + 4 ≤ s.size := by omega
  obtain ⟨E, hE⟩ : ∃ E : ByteArray, ⟨(enc R).toArray⟩ = E := ⟨_, rfl⟩
  have henc := fun W => ref_encode R hr W
  rw [← hZ] at henc
  rw [hE] at hX henc
  have hz0 : (0 : Int) ≤ Z := by omega
  clear h0 hE
  unfold scal at hr
  by_cases hm : R < 55296
  · have g0 : decide (Z ≥ 0) = true := decide_eq_true (by omega)
    have g1 : decide (Z < 55296) = true := decide_eq_true (by omega)
    clear hr hm hZ
    go_enter Tryz.func90, Tryz.ntmps90
    go_wp2
    go_rounds 4
    have hkI : (0 : Int) ≤ k ∧ (k : Int) ≤ k + 4 := by omega
    clear hb q0 r0 q1 r1 q2 r2 q3 r3 c0 hz hz0
    have cE : ∀ d os, Calls Tryz.prog 103 #[.int .i32 Z] (grow (redrawn w d) os) fun e w'' => e = .returned (.string E) ∧ ∃ p : Regrown, w'' = grow (redrawn w p.d) p.os := fun d os => Calls.regrown_of (henc _)
    clear henc
    refine wp_region_quiet_below (by kernel_rfl) (by kernel_rfl) ?_
    repeat (first | go_big_quiet_step (exact cE _ _) | quiet_step (exact cE _ _))
    refine wpQuiet_nil ?_
    intro _ hw'
    obtain ⟨⟨dq, osq⟩, hw''⟩ := hw'
    subst hw''
    go_wp2
    go_ret2
    exact ⟨rfl, below_regrown w dq osq⟩
  · have g0 : decide (Z ≥ 0) = true := decide_eq_true (by omega)
    have g1 : decide (Z < 55296) = false := decide_eq_false (by omega)
    have g2 : decide (Z ≥ 57344) = true := decide_eq_true (by omega)
    have g3 : decide (Z ≤ 1114111) = true := decide_eq_true (by omega)
    clear hr hm hZ
    go_enter Tryz.func90, Tryz.ntmps90
    go_wp2
    go_rounds 4
    have hkI : (0 : Int) ≤ k ∧ (k : Int) ≤ k + 4 := by omega
    clear hb q0 r0 q1 r1 q2 r2 q3 r3 c0 hz hz0
    have cE : ∀ d os, Calls Tryz.prog 103 #[.int .i32 Z] (grow (redrawn w d) os) fun e w'' => e = .returned (.string E) ∧ ∃ p : Regrown, w'' = grow (redrawn w p.d) p.os := fun d os => Calls.regrown_of (henc _)
    clear henc
    refine wp_region_quiet_below (by kernel_rfl) (by kernel_rfl) ?_
    repeat (first | go_big_quiet_step (exact cE _ _) | quiet_step (exact cE _ _))
    refine wpQuiet_nil ?_
    intro _ hw'
    obtain ⟨⟨dq, osq⟩, hw''⟩ := hw'
    subst hw''
    go_wp2
    go_ret2
    exact ⟨rfl, below_regrown w dq osq⟩

set_option maxHeartbeats 1000000 in
set_option maxRecDepth 100000 in
theorem rf4_other (s : ByteArray) (k : Nat) (w : World) (hs : s.size ≤ 140737488351232) (hk : k < s.size) (h0 : 240 ≤ bt s k) (hI : k + 4 ≤ s.size) (R : Nat) (hr : scal R) (Z : Int) (hZ : Z = R) (hz : (((bt s k - 240) * 64 + bt s (k + 1) % 64) * 64 + bt s (k + 2) % 64) * 64 + bt s (k + 3) % 64 = Z) (hX : ¬ ⟨(enc R).toArray⟩ = s.extract k (k + 4)) :
    Calls Tryz.prog 90 #[.string s, .int .i64 k] w fun e w' => e = .returned (.tuple #[.int .i32 0, .int .i64 0]) ∧ Below w.heap.size w w' := by
  have hb := get_bt s
  have q0 := bt_nonneg s k
  have r0 := bt_le s k
  have q1 := bt_nonneg s (k + 1)
  have r1 := bt_le s (k + 1)
  have q2 := bt_nonneg s (k + 2)
  have r2 := bt_le s (k + 2)
  have q3 := bt_nonneg s (k + 3)
  have r3 := bt_le s (k + 3)
  have c0 : bt s k ≥ 240 := by omega
  have hI' : (k : Int) + 4 ≤ s.size := by omega
  obtain ⟨E, hE⟩ : ∃ E : ByteArray, ⟨(enc R).toArray⟩ = E := ⟨_, rfl⟩
  have henc := fun W => ref_encode R hr W
  rw [← hZ] at henc
  rw [hE] at hX henc
  have hXl := ne_list hX
  have hz0 : (0 : Int) ≤ Z := by omega
  clear h0 hE
  unfold scal at hr
  by_cases hm : R < 55296
  · have g0 : decide (Z ≥ 0) = true := decide_eq_true (by omega)
    have g1 : decide (Z < 55296) = true := decide_eq_true (by omega)
    clear hr hm hZ
    go_enter Tryz.func90, Tryz.ntmps90
    go_wp2
    go_rounds 4
    have hkI : (0 : Int) ≤ k ∧ (k : Int) ≤ k + 4 := by omega
    clear hb q0 r0 q1 r1 q2 r2 q3 r3 c0 hz hz0
    have cE : ∀ d os, Calls Tryz.prog 103 #[.int .i32 Z] (grow (redrawn w d) os) fun e w'' => e = .returned (.string E) ∧ ∃ p : Regrown, w'' = grow (redrawn w p.d) p.os := fun d os => Calls.regrown_of (henc _)
    clear henc
    refine wp_region_quiet_below (by kernel_rfl) (by kernel_rfl) ?_
    repeat (first | go_big_quiet_step (exact cE _ _) | quiet_step (exact cE _ _))
    refine wpQuiet_nil ?_
    intro _ hw'
    obtain ⟨⟨dq, osq⟩, hw''⟩ := hw'
    subst hw''
    go_wp2
    go_ret2
    exact ⟨rfl, below_regrown w dq osq⟩
  · have g0 : decide (Z ≥ 0) = true := decide_eq_true (by omega)
    have g1 : decide (Z < 55296) = false := decide_eq_false (by omega)
    have g2 : decide (Z ≥ 57344) = true := decide_eq_true (by omega)
    have g3 : decide (Z ≤ 1114111) = true := decide_eq_true (by omega)
    clear hr hm hZ
    go_enter Tryz.func90, Tryz.ntmps90
    go_wp2
    go_rounds 4
    have hkI : (0 : Int) ≤ k ∧ (k : Int) ≤ k + 4 := by omega
    clear hb q0 r0 q1 r1 q2 r2 q3 r3 c0 hz hz0
    have cE : ∀ d os, Calls Tryz.prog 103 #[.int .i32 Z] (grow (redrawn w d) os) fun e w'' => e = .returned (.string E) ∧ ∃ p : Regrown, w'' = grow (redrawn w p.d) p.os := fun d os => Calls.regrown_of (henc _)
    clear henc
    refine wp_region_quiet_below (by kernel_rfl) (by kernel_rfl) ?_
    repeat (first | go_big_quiet_step (exact cE _ _) | quiet_step (exact cE _ _))
    refine wpQuiet_nil ?_
    intro _ hw'
    obtain ⟨⟨dq, osq⟩, hw''⟩ := hw'
    subst hw''
    go_wp2
    go_ret2
    exact ⟨rfl, below_regrown w dq osq⟩

end Go.Proofs.YtgimcloadjjefabGreatDoor
