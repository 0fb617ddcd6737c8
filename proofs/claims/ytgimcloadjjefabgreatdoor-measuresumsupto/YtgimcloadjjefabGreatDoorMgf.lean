/- One list behind another, in canonical form, by units: sums, brackets, what a cut takes. measure: count: how many cells a delta keeps, makes and takes away; Base, Result, Inserted, Deleted, Document. measure: Base, Result, Inserted, Deleted, Document, Concat, Shift. A piece cut in two. The Walker's calls. measure: Shift. What vellumref04.Refuse and Check answer: what an insert is refused with. What vellumref04.Length answers of inserts. The document's answers for ops: empty, Check, Length, apart. The document's answers for lists of operations: Bad, Lengths, Canonical. The document's Canonical. What vellumref04.copied and vellumref04.Join answer. What vellumref04.Length, Cells and Newlines answer of inserts. The document's deltas: Same, SameOp, Insert, Len. The document's deltas: Len. vellumhand.Make, Is; vellumlaw06's gone, text, large, lives. vellumlaw06.lives answers true. vellumlaw08: of, is, fixed. vellumlaw08: fixed answers true. Of all lists of operations vellumlaw08.MeasureSums answers true. -/
import Derived.Test.YtgimcloadjjefabGreatDoorMgd
import Derived.Test.YtgimcloadjjefabGreatDoorMge
import Derived.Stop.RegionWithIn
import Derived.Test.YtgimcloadjjefabGreatDoorMgc
import Derived.Test.YtgimcloadjjefabGreatDoorCf
import Derived.Test.YtgimcloadjjefabGreatDoorCp
import Derived.BigRegion
import Derived.Deep.RegionHeld3
import Derived.Deep.DeepCutAuto
import Derived.Deep.RegionWith
import Derived.Test.YtgimcloadjjefabGreatDoorSw
import Derived.Test.YtgimcloadjjefabGreatDoorQf
import Derived.Test.YtgimcloadjjefabGreatDoorMga
import Derived.Test.YtgimcloadjjefabGreatDoorQe

/- One list behind another, in canonical form, by units: sums, brackets, what a cut takes. -/
namespace Go.Proofs.YtgimcloadjjefabGreatDoor
open Go Go.RowKit Go.Lib
set_option linter.unusedVariables false

/-- What is put in canonical order first, and more behind it, is what it is without that. -/
theorem nrm_left : ∀ (X : List U6) (l : List C5) (e : Nat) (I : List U6) (d : Nat) (Y : List U6), nrm I d (nrm (l.map .ins) e X ++ Y) = nrm I d (l.map .ins ++ (List.replicate e .del ++ (X ++ Y)))
  | [], l, e, I, d, Y => by
    show nrm I d ((l.map .ins ++ List.replicate e .del) ++ Y) = _
    rw [List.append_assoc, List.nil_append]
  | .keep A :: X, l, e, I, d, Y => by
    show nrm I d ((l.map .ins ++ (List.replicate e .del ++ .keep A :: nrm [] 0 X)) ++ Y) = _
    rw [List.append_assoc, List.append_assoc, nrm_ins, nrm_ins, nrm_del, nrm_del]
    show _ ++ (_ ++ .keep A :: nrm [] 0 (nrm [] 0 X ++ Y)) = _ ++ (_ ++ .keep A :: nrm [] 0 (X ++ Y))
    have := nrm_left X [] 0 [] 0 Y
    simp only [List.map_nil, List.replicate_zero, List.nil_append] at this
    rw [this]
  | .del :: X, l, e, I, d, Y => by
    show nrm I d (nrm (l.map .ins) (e + 1) X ++ Y) = _
    rw [nrm_left X l (e + 1) I d Y, List.replicate_succ', List.append_assoc]
    rfl
  | .ins c :: X, l, e, I, d, Y => by
    show nrm I d (nrm (l.map .ins ++ [.ins c]) e X ++ Y) = _
    have := nrm_left X (l ++ [c]) e I d Y
    rw [List.map_append] at this
    simp only [List.map_cons, List.map_nil] at this
    rw [this, List.append_assoc, nrm_ins, nrm_ins]
    show nrm (I ++ l.map .ins) d ([c].map .ins ++ (List.replicate e .del ++ (X ++ Y))) = nrm (I ++ l.map .ins) d (List.replicate e .del ++ ([c].map .ins ++ (X ++ Y)))
    rw [nrm_ins, nrm_del, nrm_del, nrm_ins]
theorem nrm_fst (X Y I : List U6) (d : Nat) : nrm I d (nrm [] 0 X ++ Y) = nrm I d (X ++ Y) := by
  have := nrm_left X [] 0 I d Y
  simpa using this
theorem nrm_snd (X Y I : List U6) (d : Nat) : nrm I d (X ++ nrm [] 0 Y) = nrm I d (X ++ Y) := by
  obtain ⟨P, J, e, h⟩ := nrm_state X I d
  rw [h, h]
  have := nrm_fst Y [] J e
  rw [List.append_nil, List.append_nil] at this
  rw [this]
/-- What doesn't end in what is kept as it is, doesn't in canonical order either. -/
theorem nrm_end (X : List U6) (u : U6) (hu : plainU u = false) (I : List U6) (d : Nat) : ∃ V v, nrm I d (X ++ [u]) = V ++ [v] ∧ plainU v = false := by
  obtain ⟨P, J, e, h⟩ := nrm_state X I d
  rw [h]
  cases u with
  | ins c =>
    cases e with
    | zero => exact ⟨P ++ J, .ins c, by show P ++ ((J ++ [.ins c]) ++ []) = _; simp, rfl⟩
    | succ e => exact ⟨P ++ ((J ++ [.ins c]) ++ List.replicate e .del), .del, by show P ++ ((J ++ [.ins c]) ++ List.replicate (e + 1) .del) = _; rw [List.replicate_succ']; simp, rfl⟩
  | keep A => exact ⟨P ++ (J ++ List.replicate e .del), .keep A, by show P ++ (J ++ (List.replicate e .del ++ [.keep A])) = _; simp, hu⟩
  | del => exact ⟨P ++ (J ++ List.replicate e .del), .del, by show P ++ (J ++ List.replicate (e + 1) .del) = _; rw [List.replicate_succ']; simp, rfl⟩
theorem last_units {E : List Op5} (hw : ∀ o ∈ E, Wel o) (hl : lastP E = true) : E = [] ∨ ∃ us u, units E = us ++ [u] ∧ plainU u = false := by
  rcases List.eq_nil_or_concat E with rfl | ⟨F, x, rfl⟩
  · exact Or.inl rfl
  · rw [List.concat_eq_append] at *
    rw [lastP_snoc] at hl
    obtain ⟨us, u, e1, e2⟩ := units_last (hw x (List.mem_append_right _ (List.mem_singleton.2 rfl))) (by simpa using hl)
    exact Or.inr ⟨units F ++ us, u, by rw [units_append, units_one, e1]; simp, e2⟩
/-- A list whose last one isn't a plain retain: its canonical form loses nothing. -/
theorem canon_full {E : List Op5} (hw : ∀ o ∈ E, Wel o) (hl : lastP E = true) : units (canonL E) = nrm [] 0 (units E) := by
  obtain ⟨_, _, _, h⟩ := canon_spec hw
  rw [h]
  rcases last_units hw hl with rfl | ⟨us, u, e1, e2⟩
  · rfl
  · obtain ⟨V, v, e3, e4⟩ := nrm_end us u e2 [] 0
    rw [e1, e3, strip_end e4]
theorem lastP_append {E F : List Op5} (hE : lastP E = true) (hF : lastP F = true) : lastP (E ++ F) = true := by
  rcases List.eq_nil_or_concat F with rfl | ⟨G, x, rfl⟩
  · rw [List.append_nil]; exact hE
  · rw [List.concat_eq_append] at *
    rw [← List.append_assoc, lastP_snoc]
    rw [lastP_snoc] at hF
    exact hF
/-- A canonical list. -/
structure CanO (E : List Op5) : Prop where
  wel : ∀ o ∈ E, Wel o
  chain : chainB E = true
  last : lastP E = true
theorem CanO.self {E : List Op5} (h : CanO E) : canonL E = E := canon_self h.wel h.chain h.last
theorem CanO.of {E : List Op5} (h : ∀ o ∈ E, Wel o) : CanO (canonL E) := by
  obtain ⟨h1, h2, h3, _⟩ := canon_spec h
  exact ⟨h1, h2, h3⟩
theorem CanO.inj {E F : List Op5} (hE : CanO E) (hF : CanO F) (h : units E = units F) : E = F := units_inj hE.wel hF.wel hE.chain hF.chain h
theorem wel_app {E F : List Op5} (hE : ∀ o ∈ E, Wel o) (hF : ∀ o ∈ F, Wel o) : ∀ o ∈ E ++ F, Wel o := fun o ho => (List.mem_append.1 ho).elim (hE o) (hF o)
/-- One delta behind another. -/
def cat8 (E F : List Op5) : List Op5 := canonL (E ++ F)
theorem cat_can {E F : List Op5} (hE : CanO E) (hF : CanO F) : CanO (cat8 E F) := .of (wel_app hE.wel hF.wel)
theorem cat_units {E F : List Op5} (hE : CanO E) (hF : CanO F) : units (cat8 E F) = nrm [] 0 (units E ++ units F) := by
  rw [← units_append]
  exact canon_full (wel_app hE.wel hF.wel) (lastP_append hE.last hF.last)
theorem cat_assoc {E F G : List Op5} (hE : CanO E) (hF : CanO F) (hG : CanO G) : cat8 (cat8 E F) G = cat8 E (cat8 F G) := by
  refine (cat_can (cat_can hE hF) hG).inj (cat_can hE (cat_can hF hG)) ?_
  rw [cat_units (cat_can hE hF) hG, cat_units hE (cat_can hF hG), cat_units hE hF, cat_units hF hG, nrm_fst, nrm_snd, List.append_assoc]
theorem cat_nil {E : List Op5} (hE : CanO E) : cat8 E [] = E := by unfold cat8; rw [List.append_nil]; exact hE.self
theorem nil_cat {E : List Op5} (hE : CanO E) : cat8 [] E = E := by unfold cat8; rw [List.nil_append]; exact hE.self
/-- How many cells come, how many go. -/
def insN8 (U : List U6) : Nat := U.countP fun u => match u with | .ins _ => true | _ => false
def delN8 (U : List U6) : Nat := U.countP fun u => match u with | .del => true | _ => false
def insO8 (o : Op5) : Int := if o.k = 1 ∨ o.k = 2 then len5 o else 0
def dlO8 (o : Op5) : Int := if o.k = 4 then len5 o else 0
def kpO8 (o : Op5) : Int := if o.k = 3 then len5 o else 0
def sumI8 (E : List Op5) : Int := (E.map insO8).sum
def sumD8 (E : List Op5) : Int := (E.map dlO8).sum
def sumK8 (E : List Op5) : Int := (E.map kpO8).sum
theorem ins_units8 {o : Op5} (h : Wel o) : insO8 o = (insN8 (unitsO o) : Int) := by
  unfold insO8 insN8
  rcases h.kinds with hk | hk | hk | hk
  · rw [if_pos (Or.inl hk), countP_all, len5_units h]
    intro u hu
    rcases unit_cases h hu with ⟨_, r, rfl⟩ | ⟨_, rfl⟩ | ⟨h2, _⟩ | ⟨h2, _⟩ <;> first | rfl | omega
  · rw [if_pos (Or.inr hk), countP_all, len5_units h]
    intro u hu
    rcases unit_cases h hu with ⟨_, r, rfl⟩ | ⟨_, rfl⟩ | ⟨h2, _⟩ | ⟨h2, _⟩ <;> first | rfl | omega
  · rw [if_neg (by omega), countP_none]; rfl
    intro u hu
    rcases unit_cases h hu with ⟨h2, _⟩ | ⟨h2, _⟩ | ⟨_, rfl⟩ | ⟨h2, rfl⟩ <;> first | rfl | omega
  · rw [if_neg (by omega), countP_none]; rfl
    intro u hu
    rcases unit_cases h hu with ⟨h2, _⟩ | ⟨h2, _⟩ | ⟨h2, rfl⟩ | ⟨h2, rfl⟩ <;> first | rfl | omega
theorem dl_units8 {o : Op5} (h : Wel o) : dlO8 o = (delN8 (unitsO o) : Int) := by
  unfold dlO8 delN8
  rcases h.kinds with hk | hk | hk | hk
  · rw [if_neg (by omega), countP_none]; rfl
    intro u hu
    rcases unit_cases h hu with ⟨_, r, rfl⟩ | ⟨_, rfl⟩ | ⟨h2, _⟩ | ⟨h2, _⟩ <;> first | rfl | omega
  · rw [if_neg (by omega), countP_none]; rfl
    intro u hu
    rcases unit_cases h hu with ⟨_, r, rfl⟩ | ⟨_, rfl⟩ | ⟨h2, _⟩ | ⟨h2, _⟩ <;> first | rfl | omega
  · rw [if_neg (by omega), countP_none]; rfl
    intro u hu
    rcases unit_cases h hu with ⟨h2, _⟩ | ⟨h2, _⟩ | ⟨_, rfl⟩ | ⟨h2, rfl⟩ <;> first | rfl | omega
  · rw [if_pos hk, countP_all, len5_units h]
    intro u hu
    rcases unit_cases h hu with ⟨h2, _⟩ | ⟨h2, _⟩ | ⟨h2, rfl⟩ | ⟨h2, rfl⟩ <;> first | rfl | omega
theorem insN8_append (U V : List U6) : insN8 (U ++ V) = insN8 U + insN8 V := by unfold insN8; rw [List.countP_append]
theorem delN8_append (U V : List U6) : delN8 (U ++ V) = delN8 U + delN8 V := by unfold delN8; rw [List.countP_append]
theorem sumI8_units : ∀ {E : List Op5}, (∀ o ∈ E, Wel o) → sumI8 E = (insN8 (units E) : Int)
  | [], _ => rfl
  | o :: r, h => by
    have ih := sumI8_units fun x hx => h x (List.mem_cons_of_mem _ hx)
    show insO8 o + sumI8 r = (insN8 (unitsO o ++ units r) : Int)
    rw [insN8_append, ins_units8 (h o (List.mem_cons_self ..)), ih]; omega
theorem sumD8_units : ∀ {E : List Op5}, (∀ o ∈ E, Wel o) → sumD8 E = (delN8 (units E) : Int)
  | [], _ => rfl
  | o :: r, h => by
    have ih := sumD8_units fun x hx => h x (List.mem_cons_of_mem _ hx)
    show dlO8 o + sumD8 r = (delN8 (unitsO o ++ units r) : Int)
    rw [delN8_append, dl_units8 (h o (List.mem_cons_self ..)), ih]; omega
theorem three_sums {o : Op5} (h : Wel o) : baseO o = kpO8 o + dlO8 o ∧ resO o = kpO8 o + insO8 o ∧ 0 ≤ kpO8 o ∧ 0 ≤ dlO8 o ∧ 0 ≤ insO8 o := by
  have h1 := base_nn h
  have h2 := res_nn h
  have hl := len5_units h
  unfold baseO resO kpO8 dlO8 insO8 at *
  rcases h.kinds with hk | hk | hk | hk
  · simp only [hk] at *; simp at *; omega
  · simp only [hk] at *; simp at *; omega
  · simp only [hk] at *; simp at *; omega
  · simp only [hk] at *; simp at *; omega
theorem sums_three : ∀ {E : List Op5}, (∀ o ∈ E, Wel o) → sumB E = sumK8 E + sumD8 E ∧ sumR E = sumK8 E + sumI8 E ∧ 0 ≤ sumK8 E ∧ 0 ≤ sumD8 E ∧ 0 ≤ sumI8 E
  | [], _ => by decide
  | o :: r, h => by
    have ih := sums_three fun x hx => h x (List.mem_cons_of_mem _ hx)
    have h1 := three_sums (h o (List.mem_cons_self ..))
    have e : sumB (o :: r) = baseO o + sumB r ∧ sumR (o :: r) = resO o + sumR r ∧ sumK8 (o :: r) = kpO8 o + sumK8 r ∧ sumD8 (o :: r) = dlO8 o + sumD8 r ∧ sumI8 (o :: r) = insO8 o + sumI8 r := ⟨rfl, rfl, rfl, rfl, rfl⟩
    omega
theorem cat_sums {E F : List Op5} (hE : CanO E) (hF : CanO F) : sumB (cat8 E F) = sumB E + sumB F ∧ sumR (cat8 E F) = sumR E + sumR F ∧ sumI8 (cat8 E F) = sumI8 E + sumI8 F ∧ sumD8 (cat8 E F) = sumD8 E + sumD8 F := by
  have hc := cat_can hE hF
  have hp : (units (cat8 E F)).Perm (units E ++ units F) := by
    rw [cat_units hE hF]
    have := nrm_perm (units E ++ units F) [] 0
    simpa using this
  have cnt : ∀ p : U6 → Bool, (units (cat8 E F)).countP p = (units E).countP p + (units F).countP p := fun p => by rw [hp.countP_eq, List.countP_append]
  refine ⟨?_, ?_, ?_, ?_⟩
  · rw [sumB_units hc.wel, sumB_units hE.wel, sumB_units hF.wel]; unfold baseU; rw [cnt]; omega
  · rw [sumR_units hc.wel, sumR_units hE.wel, sumR_units hF.wel]; unfold resU; rw [cnt]; omega
  · rw [sumI8_units hc.wel, sumI8_units hE.wel, sumI8_units hF.wel]; unfold insN8; rw [cnt]; omega
  · rw [sumD8_units hc.wel, sumD8_units hE.wel, sumD8_units hF.wel]; unfold delN8; rw [cnt]; omega
/-- Behind so many cells. -/
def shift8 (E : List Op5) (n : Int) : List Op5 := if n = 0 ∨ E = [] then E else canonL (pl7 n :: E)
theorem shift_wel {E : List Op5} (hE : CanO E) {n : Int} (h : 1 ≤ n) : ∀ o ∈ pl7 n :: E, Wel o := fun o ho => by
  rcases List.mem_cons.1 ho with rfl | ho
  · exact Or.inr (Or.inl ⟨rfl, rfl, rfl, h, by kernel_rfl⟩)
  · exact hE.wel o ho
theorem lastP_behind {x : Op5} {E : List Op5} (h : lastP E = true) (h0 : E ≠ []) : lastP (x :: E) = true := by
  cases E with
  | nil => exact absurd rfl h0
  | cons y r => rw [lastP_cons]; exact h
theorem shift_units {E : List Op5} (hE : CanO E) {n : Int} (h : 0 ≤ n) (h0 : E ≠ []) : CanO (shift8 E n) ∧ units (shift8 E n) = nrm [] 0 (List.replicate n.toNat (U6.keep []) ++ units E) := by
  by_cases hn : n = 0
  · subst hn
    have e : shift8 E 0 = E := if_pos (Or.inl rfl)
    rw [e]
    exact ⟨hE, by show _ = nrm [] 0 (units E); rw [nrm_chain [] hE.wel hE.chain]; rfl⟩
  · have e : shift8 E n = canonL (pl7 n :: E) := if_neg (by simp [hn, h0])
    have hw := shift_wel hE (n := n) (by omega)
    rw [e]
    exact ⟨.of hw, canon_full hw (lastP_behind hE.last h0)⟩
theorem shift_ne {E : List Op5} (hE : CanO E) {n : Int} (h : 0 ≤ n) (h0 : E ≠ []) : shift8 E n ≠ [] := fun e => by
  obtain ⟨_, hu⟩ := shift_units hE h h0
  rw [e] at hu
  have hp := nrm_perm (List.replicate n.toNat (U6.keep []) ++ units E) [] 0
  rw [← hu] at hp
  have hl := hp.length_eq
  cases E with
  | nil => exact h0 rfl
  | cons x r =>
    have := unitsO_ne (hE.wel x (List.mem_cons_self ..))
    have h2 : units (x :: r) = unitsO x ++ units r := rfl
    have h3 : 1 ≤ (unitsO x).length := by
      cases hx : unitsO x with
      | nil => exact absurd hx this
      | cons _ _ => simp
    simp [units] at hl
    omega
theorem shift_two {E : List Op5} (hE : CanO E) {m n : Int} (hm : 0 ≤ m) (hn : 0 ≤ n) : shift8 (shift8 E m) n = shift8 E (m + n) := by
  by_cases h0 : E = []
  · subst h0
    have e : ∀ k : Int, shift8 [] k = [] := fun k => if_pos (Or.inr rfl)
    rw [e, e, e]
  · obtain ⟨c1, u1⟩ := shift_units hE hm h0
    obtain ⟨c2, u2⟩ := shift_units c1 hn (shift_ne hE hm h0)
    obtain ⟨c3, u3⟩ := shift_units hE (show 0 ≤ m + n by omega) h0
    refine c2.inj c3 ?_
    rw [u2, u1, u3, nrm_snd, ← List.append_assoc, List.replicate_append_replicate, show (m + n).toNat = n.toNat + m.toNat by omega]
theorem shift_sums {E : List Op5} (hE : CanO E) {n : Int} (h : 0 ≤ n) (h0 : E ≠ []) : sumB (shift8 E n) = n + sumB E ∧ sumR (shift8 E n) = n + sumR E := by
  obtain ⟨hc, hu⟩ := shift_units hE h h0
  have hp : (units (shift8 E n)).Perm (List.replicate n.toNat (U6.keep []) ++ units E) := by
    rw [hu]
    have := nrm_perm (List.replicate n.toNat (U6.keep []) ++ units E) [] 0
    simpa using this
  have cnt : ∀ p : U6 → Bool, p (U6.keep []) = true → (units (shift8 E n)).countP p = n.toNat + (units E).countP p := fun p hp' => by
    rw [hp.countP_eq, List.countP_append, List.countP_replicate, if_pos hp']
  refine ⟨?_, ?_⟩
  · rw [sumB_units hc.wel, sumB_units hE.wel]; unfold baseU; rw [cnt _ rfl]; omega
  · rw [sumR_units hc.wel, sumR_units hE.wel]; unfold resU; rw [cnt _ rfl]; omega
end Go.Proofs.YtgimcloadjjefabGreatDoor

/- measure: count: how many cells a delta keeps, makes and takes away; Base, Result, Inserted, Deleted, Document. -/
namespace Go.Proofs.YtgimcloadjjefabGreatDoor
open Go Go.RowKit Go.Lib Go.Shelf
set_option linter.unusedVariables false
attribute [local go_sem] Oper.semAt_some

abbrev cnt8 (k i d : Int) : Array Value := #[.int .i64 k, .int .i64 i, .int .i64 d]
theorem tr_below8 {T : TypeId → Prop} {n B : Nat} {w A A' : World} (h : Below n w A) (hn : n ≤ w.heap.size) (hB : n ≤ B) (k : Tr7 T B A A') : Below n w A' :=
  ⟨k.os.trans h.os, k.tape.trans h.tape, k.output.trans h.output, Nat.le_trans h.size k.size, fun j hj => by
    have hl : j < A.heap.size := by have := h.size; omega
    rw [k.kept j A.heap[j] (Array.getElem?_eq_getElem hl) (.inl (by omega)), ← h.block j hj, Array.getElem?_eq_getElem hl]⟩
theorem count_leave (n0 W : World) (D r : Nat) (tmps : Array Value) (k i d : Int) (hp : tmps[2]? = some (.pointer (some ⟨r, 0, none⟩))) (hr : W.heap[r]? = some (.cells (cnt8 k i d) 50 (0, 0)))
    (hK : W.heap[D]? = some (.deferred (some []))) (h1 : n0.heap.size ≤ D) (hb : Below n0.heap.size n0 W) :
    bodyPostM Fence.wide 5 Tryz.prog Tryz.f23 (fun e w' => e = .returned (.agg (cnt8 k i d)) ∧ Below n0.heap.size n0 w') Exit.ret
      { tmps := tmps, defers := [{ target := .collected D, args := #[] }] } W := by
  have hne : r ≠ D := fun e => by subst e; rw [hr] at hK; cases hK
  have hr' : (W.putObj D (.deferred none)).heap[r]? = some (.cells (cnt8 k i d) 50 (0, 0)) := (World.putObj_heap_other hne).trans hr
  have c0 : (W.putObj D (.deferred none)).cell? ⟨r, 0, none⟩ = some (.int .i64 k) := by rw [cell_of_heap hr']; rfl
  have c1 : (W.putObj D (.deferred none)).cell? ⟨r, 1, none⟩ = some (.int .i64 i) := by rw [cell_of_heap hr']; rfl
  have c2 : (W.putObj D (.deferred none)).cell? ⟨r, 2, none⟩ = some (.int .i64 d) := by rw [cell_of_heap hr']; rfl
  refine ⟨by simp, .inl ⟨_, _, rfl, run_takeDeferred hK, ?_⟩⟩
  refine ⟨.agg (cnt8 k i d), ?_, rfl, ?_⟩
  · simp [results, Tryz.results23, go_sem, hp, c0, c1, c2]
  · exact hb.trans (belowK_b (w := n0) (Nat.le_refl _) _ D _ _ h1 hK rfl rfl)
theorem KZ.set8 {pre : List PZ} {x : PZ} {W W' : World} {N j : Nat} {v : Array Value} (b : Below W.heap.size W W') (h : W.heap[N]? = some (.cells v 50 (0, 0))) (u : Value) : KZ pre x W (W'.setCell ⟨N, j, none⟩ u) := by
  have key : ∀ (k : Nat) (o : Obj), W.heap[k]? = some o → k ≠ N → (W'.setCell ⟨N, j, none⟩ u).heap[k]? = some o := fun k o hk n2 => by
    rw [Below.heap_setCell _ _ _ _ (by exact n2), b.block k (Array.getElem?_eq_some_iff.1 hk).1, hk]
  exact ⟨by simp only [World.setCell, Array.size_modify]; exact b.size, fun k cs hk => key k _ hk (fun e => by subst e; rw [h] at hk; cases hk), fun k cs hk _ => key k _ hk (fun e => by subst e; rw [h] at hk; cases hk)⟩
theorem set3_heap8 {W : World} {r : Nat} (h : W.heap[r]? = some (.cells (cnt8 0 0 0) 50 (0, 0))) (a b c : Value) :
    (((W.setCell ⟨r, 0, none⟩ a).setCell ⟨r, 1, none⟩ b).setCell ⟨r, 2, none⟩ c).heap[r]? = some (.cells #[a, b, c] 50 (0, 0)) ∧ (∀ (k : Nat) (o : Obj), W.heap[k]? = some o → k ≠ r → (((W.setCell ⟨r, 0, none⟩ a).setCell ⟨r, 1, none⟩ b).setCell ⟨r, 2, none⟩ c).heap[k]? = some o) ∧ Below r W (((W.setCell ⟨r, 0, none⟩ a).setCell ⟨r, 1, none⟩ b).setCell ⟨r, 2, none⟩ c) := by
  have h1 := heap_set_at W r 0 a _ _ _ h
  have h2 := heap_set_at _ r 1 b _ _ _ h1
  have h3 := heap_set_at _ r 2 c _ _ _ h2
  refine ⟨h3, fun k o hk hn => ?_, (((Below.refl _ _).setCell (p := ⟨r, 0, none⟩) (Nat.le_refl _) _).setCell (p := ⟨r, 1, none⟩) (Nat.le_refl _) _).setCell (p := ⟨r, 2, none⟩) (Nat.le_refl _) _⟩
  rw [Below.heap_setCell _ _ _ _ (by exact hn), Below.heap_setCell _ _ _ _ (by exact hn), Below.heap_setCell _ _ _ _ (by exact hn), hk]
/-- What count has behind some pieces. -/
def CI8 (E : List Op5) (w : World) (r N : Nat) (pre : List PZ) (W : World) : Prop := W.heap[N]? = some (.cells (cnt8 (sumK8 (E.take pre.length)) (sumI8 (E.take pre.length)) (sumD8 (E.take pre.length))) 50 (0, 0)) ∧ W.heap[r]? = some (.cells (cnt8 0 0 0) 50 (0, 0)) ∧ Below w.heap.size w W
theorem sumK8_append (E F : List Op5) : sumK8 (E ++ F) = sumK8 E + sumK8 F := by unfold sumK8; rw [List.map_append, List.sum_append]
theorem sumI8_append (E F : List Op5) : sumI8 (E ++ F) = sumI8 E + sumI8 F := by unfold sumI8; rw [List.map_append, List.sum_append]
theorem sumD8_append (E F : List Op5) : sumD8 (E ++ F) = sumD8 E + sumD8 F := by unfold sumD8; rw [List.map_append, List.sum_append]
theorem others8 {w w' : World} (h : Below w.heap.size w w') : KeepsOthers w w' :=
  ⟨h.size, fun k o hk _ => (h.block k (Array.getElem?_eq_some_iff.1 hk).1).trans hk⟩
/-- Behind a round. -/
theorem ci_step {E : List Op5} {w W W' : World} {r N B j : Nat} {pre : List PZ} {x : PZ} {e : Op5} {u : Int} (hI : CI8 E w r N pre W) (he : E[pre.length]? = some e) (hN : w.heap.size ≤ N) (hrN : r ≠ N) (b : Below W.heap.size W W')
    (hu : (cnt8 (sumK8 (E.take pre.length)) (sumI8 (E.take pre.length)) (sumD8 (E.take pre.length))).setIfInBounds j (.int .i64 u) = cnt8 (sumK8 (E.take pre.length) + kpO8 e) (sumI8 (E.take pre.length) + insO8 e) (sumD8 (E.take pre.length) + dlO8 e)) :
    KeepsFrom B W (W'.setCell ⟨N, j, none⟩ (.int .i64 u)) ∧ KZ pre x W (W'.setCell ⟨N, j, none⟩ (.int .i64 u)) ∧ CI8 E w r N (pre ++ [x]) (W'.setCell ⟨N, j, none⟩ (.int .i64 u)) := by
  obtain ⟨h1, h2, h3⟩ := hI
  have h1' := heap_below b h1
  have hT : E.take (pre ++ [x]).length = E.take pre.length ++ [e] := by rw [List.length_append, List.length_singleton, List.take_add_one, he]; rfl
  refine ⟨((others8 b).trans (KeepsOthers.setCell _ _ _)).from _, KZ.set8 b h1 _, ?_, ?_, (h3.trans (b.mono h3.size)).setCell (p := ⟨N, j, none⟩) hN _⟩
  · rw [heap_set_at W' _ j _ _ _ _ h1', hT, sumK8_append, sumI8_append, sumD8_append]
    have e1 : sumK8 [e] = kpO8 e := by simp [sumK8]
    have e2 : sumI8 [e] = insO8 e := by simp [sumI8]
    have e3 : sumD8 [e] = dlO8 e := by simp [sumD8]
    rw [e1, e2, e3, hu]
  · rw [Below.heap_setCell _ _ _ _ (by exact hrN)]
    exact heap_below b h2
theorem fits_pre8 {E : List Op5} (hw : ∀ o ∈ E, Wel o) (hf : sumB E ≤ 1099511627776 ∧ sumR E ≤ 1099511627776) (k : Nat) : (0 ≤ sumK8 (E.take k) ∧ sumK8 (E.take k) ≤ 1099511627776) ∧ (0 ≤ sumI8 (E.take k) ∧ sumI8 (E.take k) ≤ 1099511627776) ∧ 0 ≤ sumD8 (E.take k) ∧ sumD8 (E.take k) ≤ 1099511627776 := by
  have h1 := sums_three (E := E.take k) fun o ho => hw o (List.mem_of_mem_take ho)
  have h2 := sums_three (E := E.drop k) fun o ho => hw o (List.mem_of_mem_drop ho)
  have h3 := sums_three hw
  have e1 := sumK8_append (E.take k) (E.drop k)
  have e2 := sumI8_append (E.take k) (E.drop k)
  have e3 := sumD8_append (E.take k) (E.drop k)
  rw [List.take_append_drop] at e1 e2 e3
  omega
theorem len_pre8 {E : List Op5} (hg : ∀ o ∈ E, opE o = 0) (hf : sumB E ≤ 1099511627776 ∧ sumR E ≤ 1099511627776) {e : Op5} (he : e ∈ E) : 1 ≤ len5 e ∧ len5 e ≤ 1099511627776 := by
  have hw : ∀ o ∈ E, Wel o := fun o ho => wel_of (hg o ho)
  obtain ⟨h1, h2⟩ := mem_sums hw he
  have hp := len5_pos (hg e he)
  refine ⟨hp, ?_⟩
  unfold baseO resO at *
  rcases (hw e he).kinds with hk | hk | hk | hk <;> simp [hk] at h1 h2 <;> omega
set_option maxHeartbeats 4000000 in
set_option maxRecDepth 100000 in
theorem count8_any {B1 B2 : Nat} (v : Value) (E : List Op5) (w : World) (h : DelV w B1 B2 v E) (hg : ∀ o ∈ E, opE o = 0) (hA : ∀ o ∈ E, o.A.length ≤ 2097152) (hl : E.length ≤ 4194304) (hf : sumB E ≤ 1099511627776 ∧ sumR E ≤ 1099511627776) :
    Calls Tryz.prog 23 #[v] w fun e w' => e = .returned (.agg (cnt8 (sumK8 E) (sumI8 E) (sumD8 E))) ∧ Below w.heap.size w w' := by
  have b1 : Below w.heap.size w ((w.alloc (.cells (cnt8 0 0 0) 50)).alloc (.cells (cnt8 0 0 0) 50)) := ((Below.refl _ _).alloc (Nat.le_refl _) _).alloc (by simp) _
  have n1 : ((w.alloc (.cells (cnt8 0 0 0) 50)).alloc (.cells (cnt8 0 0 0) 50)).heap[w.heap.size + 1]? = some (.cells (cnt8 0 0 0) 50 (0, 0)) := by
    have := heap_alloc_new (w.alloc (.cells (cnt8 0 0 0) 50)) (.cells (cnt8 0 0 0) 50)
    rwa [World.size_alloc] at this
  have n2 : ((w.alloc (.cells (cnt8 0 0 0) 50)).alloc (.cells (cnt8 0 0 0) 50)).heap[w.heap.size]? = some (.cells (cnt8 0 0 0) 50 (0, 0)) :=
    heap_below ((Below.refl _ _).alloc (Nat.le_refl _) _) (heap_alloc_new w _)
  have cE := each7_call v E _ (h.below b1)
  have hw : ∀ o ∈ E, Wel o := fun o ho => wel_of (hg o ho)
  have HE : Hid ((∀ o ∈ E, opE o = 0) ∧ (∀ o ∈ E, o.A.length ≤ 2097152) ∧ E.length ≤ 4194304 ∧ (sumB E ≤ 1099511627776 ∧ sumR E ≤ 1099511627776) ∧ ∀ o ∈ E, Wel o) := ⟨hg, hA, hl, hf, hw⟩
  have H1 : Hid (CI8 E w w.heap.size (w.heap.size + 1) [] ((w.alloc (.cells (cnt8 0 0 0) 50)).alloc (.cells (cnt8 0 0 0) 50))) := ⟨n1, n2, b1⟩
  obtain ⟨q, pv, PL, rfl, _⟩ := h
  clear hg hA hl hf hw b1 n1 n2
  refine (callsIn_wide (n := 5)).1 ?_
  refine callsIn_of_wp_marks Tryz.func23 rfl trivial ?_ rfl
  simp only [Tryz.ntmps23, List.size_toArray, List.length_cons, List.length_nil, Nat.reduceAdd, Nat.reduceSub, Array.replicate_succ, Array.replicate_zero, List.push_toArray, List.append_toArray, List.nil_append, List.cons_append]
  rw [wpIn_wide]
  go_wp2_with fail
  refine cE.mono ?_; rintro r w2 ⟨x, rfl, hx, -, b2⟩
  have H2 : Hid (CI8 E w w.heap.size (w.heap.size + 1) [] w2 ∧ BoxD w2 x B1 B2 E) := ⟨⟨heap_below b2 H1.out.1, heap_below b2 H1.out.2.1, H1.out.2.2.trans (b2.mono H1.out.2.2.size)⟩, hx⟩
  have hsz : w.heap.size + 1 < w2.heap.size := (Array.getElem?_eq_some_iff.1 H2.out.1.1).1
  clear cE hx b2 H1
  go_wp2_with fail
  refine (wpIn_wide (n := 5)).1 ?_
  refine wpIn_rangeFunc_G (encs := encZ) rfl (by decide) (gf := 53) (lb := #[.pointer (some ⟨x, 0, none⟩)]) rfl trivial (enters_of Tryz.func53 (by kernel_rfl) rfl)
    (each7_seq E w2 x B1 B2 H2.out.2 HE.out.1 HE.out.2.1 HE.out.2.2.1 4 (by decide)) (Below.refl _ _) (fun _ => rfl) (fun pre x A A' h k => h.bk k) (fun pre x A A' B B' k1 h k2 => KZ.bk k1 h k2)
    (CI8 E w w.heap.size (w.heap.size + 1)) (fun _ _ _ => False)
    (fun s A A' h k => ⟨k.kept _ _ h.1 (.inl hsz), k.kept _ _ h.2.1 (.inl (by omega)), tr_below8 h.2.2 (Nat.le_refl _) (by omega) k⟩) (fun _ _ _ _ h _ => h) H2.out.1 ?a1 ?assign ?body ?done ?stop
  case assign =>
    intro l x W K hK
    gi_wp2
    exact hK
  case body =>
    rintro l pre x W hI ⟨e, s', he, hx, _⟩
    obtain ⟨x1, xlo, xhi⟩ := x
    simp only at hx
    subst hx
    have HI : Hid (CI8 E w w.heap.size (w.heap.size + 1) pre W ∧ E[pre.length]? = some e) := ⟨hI, he⟩
    have hge := HE.out.1 e (List.mem_of_getElem? he)
    obtain ⟨K, hK⟩ : ∃ x, sumK8 (E.take pre.length) = x := ⟨_, rfl⟩
    obtain ⟨I, hI'⟩ : ∃ x, sumI8 (E.take pre.length) = x := ⟨_, rfl⟩
    obtain ⟨D, hD⟩ : ∃ x, sumD8 (E.take pre.length) = x := ⟨_, rfl⟩
    have hc := HI.out.1.1
    rw [hK, hI', hD] at hc
    have c0 : W.cell? ⟨w.heap.size + 1, 0, none⟩ = some (.int .i64 K) := by rw [cell_of_heap hc]; rfl
    have c1 : W.cell? ⟨w.heap.size + 1, 1, none⟩ = some (.int .i64 I) := by rw [cell_of_heap hc]; rfl
    have c2 : W.cell? ⟨w.heap.size + 1, 2, none⟩ = some (.int .i64 D) := by rw [cell_of_heap hc]; rfl
    have HC : Hid (∀ W', Below W.heap.size W W' → (W'.cell? ⟨w.heap.size + 1, 0, none⟩ = some (.int .i64 K) ∧ W'.cell? ⟨w.heap.size + 1, 1, none⟩ = some (.int .i64 I) ∧ W'.cell? ⟨w.heap.size + 1, 2, none⟩ = some (.int .i64 D)) ∧ W'.frozen? ⟨w.heap.size + 1, 0, none⟩ = false ∧ W'.frozen? ⟨w.heap.size + 1, 1, none⟩ = false ∧ W'.frozen? ⟨w.heap.size + 1, 2, none⟩ = false) := fun W' hb => ⟨⟨(hb.cell (lt_of_cell c0)).trans c0, (hb.cell (lt_of_cell c1)).trans c1, (hb.cell (lt_of_cell c2)).trans c2⟩, frozen_of_heap (heap_below hb hc) 0, frozen_of_heap (heap_below hb hc) 1, frozen_of_heap (heap_below hb hc) 2⟩
    have bd : Below W.heap.size W W.drew := (Below.refl _ _).drew
    have md := HC.out _ bd
    obtain ⟨L, hL⟩ : ∃ x, len5 e = x := ⟨_, rfl⟩
    have hr : ((0 ≤ K ∧ K ≤ 1099511627776) ∧ (0 ≤ I ∧ I ≤ 1099511627776) ∧ (0 ≤ D ∧ D ≤ 1099511627776)) ∧ 1 ≤ L ∧ L ≤ 1099511627776 := by
      have h1 := fits_pre8 HE.out.2.2.2.2 HE.out.2.2.2.1 pre.length
      have h2 := len_pre8 HE.out.1 HE.out.2.2.2.1 (List.mem_of_getElem? he)
      rw [hK, hI', hD] at h1
      rw [hL] at h2
      exact ⟨h1, h2⟩
    replace hK : Hid (sumK8 (E.take pre.length) = K ∧ sumI8 (E.take pre.length) = I ∧ sumD8 (E.take pre.length) = D ∧ len5 e = L) := ⟨hK, hI', hD, hL⟩
    clear hI he hc c0 c1 c2 hI' hD
    rcases kinds_of hge with hk | hk | hk | hk
    · have hu : Hid (kpO8 e = 0 ∧ insO8 e = len5 e ∧ dlO8 e = 0) := by show _ ∧ _ ∧ _; unfold kpO8 dlO8 insO8; simp [hk]
      have hl := (len5_1 hk).symm.trans hL
      rw [pieceQ_1 hk]
      have a0 := as_i_r
      have a1 := as_i_d
      rw [hl]
      have hz : IntKind.i64.wrap (I + L) = I + L := by rw [IntKind.wrap_i64]; omega
      have hm : ∀ W : World, (method 298 111 (.agg #[s', .string e.t, .int .i64 L]) "Len").run Tryz.prog W = .ok (136, .agg #[s', .string e.t, .int .i64 L]) W := fun _ => by kernel_rfl
      have cLen : Hid (∀ W', Below W.heap.size W W' → Calls Tryz.prog 136 #[.agg #[s', .string e.t, .int .i64 L]] W' fun r w' => r = .returned (.int .i64 L) ∧ Below W.heap.size W w') := fun W' hW => from_below hW (ilen_any s' e.t L W')
      clear hk hl
      gi_wp2
      gi_region_with (refine ⟨trivial, (CallsIn.inRound l (callsIn_wide.2 (cLen.out _ bd))).mono ?_⟩; rintro r wA ⟨rfl, bA⟩; have mA := HC.out wA bA)
      all_goals (gi_wp2)
      all_goals exact ci_step HI.out.1 HI.out.2 (by omega) (by omega) bA (by rw [hK.out.1, hK.out.2.1, hK.out.2.2.1, hu.out.1, hu.out.2.1, hu.out.2.2, hK.out.2.2.2]; simp)
    · have hu : Hid (kpO8 e = 0 ∧ insO8 e = len5 e ∧ dlO8 e = 0) := by show _ ∧ _ ∧ _; unfold kpO8 dlO8 insO8; simp [hk]
      have hl := (len5_2 hk).symm.trans hL
      rw [pieceQ_2 hk]
      have a0 := as_e_r
      have a1 := as_e_d
      obtain ⟨V, hV⟩ : ∃ V, valP e.v = V := ⟨_, rfl⟩
      rw [hV]
      have hz : IntKind.i64.wrap (I + L) = I + L := by rw [IntKind.wrap_i64]; omega
      have hm : ∀ W : World, (method 298 116 (.agg #[s', .string e.t, V]) "Len").run Tryz.prog W = .ok (138, .agg #[s', .string e.t, V]) W := fun _ => by kernel_rfl
      have cLen : Hid (∀ W', Below W.heap.size W W' → Calls Tryz.prog 138 #[.agg #[s', .string e.t, V]] W' fun r w' => r = .returned (.int .i64 L) ∧ Below W.heap.size W w') := fun W' hW => from_below hW (by have := elen_any V s' e.t W'; rw [hl] at this; exact this)
      clear hk hl
      gi_wp2
      gi_region_with (refine ⟨trivial, (CallsIn.inRound l (callsIn_wide.2 (cLen.out _ bd))).mono ?_⟩; rintro r wA ⟨rfl, bA⟩; have mA := HC.out wA bA)
      all_goals (gi_wp2)
      all_goals exact ci_step HI.out.1 HI.out.2 (by omega) (by omega) bA (by rw [hK.out.1, hK.out.2.1, hK.out.2.2.1, hu.out.1, hu.out.2.1, hu.out.2.2, hK.out.2.2.2]; simp)
    · have hu : Hid (kpO8 e = len5 e ∧ insO8 e = 0 ∧ dlO8 e = 0) := by show _ ∧ _ ∧ _; unfold kpO8 dlO8 insO8; simp [hk]
      have hl := (len5_3 (.inl hk)).symm.trans hL
      rw [pieceQ_3 hk]
      have a0 := as_r_r
      have a1 := as_r_d
      rw [hl]
      have hz : IntKind.i64.wrap (K + L) = K + L := by rw [IntKind.wrap_i64]; omega
      have hm : ∀ W : World, (method 298 73 (.agg #[s', .int .i64 L]) "Len").run Tryz.prog W = .ok (132, .agg #[s', .int .i64 L]) W := fun _ => by kernel_rfl
      have cLen : Hid (∀ W', Below W.heap.size W W' → Calls Tryz.prog 132 #[.agg #[s', .int .i64 L]] W' fun r w' => r = .returned (.int .i64 L) ∧ Below W.heap.size W w') := fun W' hW => from_below hW (rlen_any s' L W')
      clear hk hl
      gi_wp2
      gi_region_with (refine ⟨trivial, (CallsIn.inRound l (callsIn_wide.2 (cLen.out _ bd))).mono ?_⟩; rintro r wA ⟨rfl, bA⟩; have mA := HC.out wA bA)
      all_goals (gi_wp2)
      all_goals exact ci_step HI.out.1 HI.out.2 (by omega) (by omega) bA (by rw [hK.out.1, hK.out.2.1, hK.out.2.2.1, hu.out.1, hu.out.2.1, hu.out.2.2, hK.out.2.2.2]; simp)
    · have hu : Hid (kpO8 e = 0 ∧ insO8 e = 0 ∧ dlO8 e = len5 e) := by show _ ∧ _ ∧ _; unfold kpO8 dlO8 insO8; simp [hk]
      have hl := (len5_3 (.inr hk)).symm.trans hL
      rw [pieceQ_4 hk]
      have a0 := as_d_r
      have a1 := as_d_d
      rw [hl]
      have hz : IntKind.i64.wrap (D + L) = D + L := by rw [IntKind.wrap_i64]; omega
      have hm : ∀ W : World, (method 298 82 (.agg #[.int .i64 L]) "Len").run Tryz.prog W = .ok (134, .agg #[.int .i64 L]) W := fun _ => by kernel_rfl
      have cLen : Hid (∀ W', Below W.heap.size W W' → Calls Tryz.prog 134 #[.agg #[.int .i64 L]] W' fun r w' => r = .returned (.int .i64 L) ∧ Below W.heap.size W w') := fun W' hW => from_below hW (dlen_any L W')
      clear hk hl
      gi_wp2
      gi_region_with (refine ⟨trivial, (CallsIn.inRound l (callsIn_wide.2 (cLen.out _ bd))).mono ?_⟩; rintro r wA ⟨rfl, bA⟩; have mA := HC.out wA bA)
      all_goals (gi_wp2)
      all_goals exact ci_step HI.out.1 HI.out.2 (by omega) (by omega) bA (by rw [hK.out.1, hK.out.2.1, hK.out.2.2.1, hu.out.1, hu.out.2.1, hu.out.2.2, hK.out.2.2.2]; simp)
  case stop => intro D c pre W _ h; exact h.elim
  case done =>
    rintro D xs W hD hS ⟨hN, hR, hB⟩ hK
    rw [hS, List.take_length] at hN
    have c0 : W.cell? ⟨w.heap.size + 1, 0, none⟩ = some (.int .i64 (sumK8 E)) := by rw [cell_of_heap hN]; rfl
    have c1 : W.cell? ⟨w.heap.size + 1, 1, none⟩ = some (.int .i64 (sumI8 E)) := by rw [cell_of_heap hN]; rfl
    have c2 : W.cell? ⟨w.heap.size + 1, 2, none⟩ = some (.int .i64 (sumD8 E)) := by rw [cell_of_heap hN]; rfl
    have r0 : W.cell? ⟨w.heap.size, 0, none⟩ = some (.int .i64 0) := by rw [cell_of_heap hR]; rfl
    have r1 : W.cell? ⟨w.heap.size, 1, none⟩ = some (.int .i64 0) := by rw [cell_of_heap hR]; rfl
    have r2 : W.cell? ⟨w.heap.size, 2, none⟩ = some (.int .i64 0) := by rw [cell_of_heap hR]; rfl
    have f0 := frozen_of_heap hR 0
    have f1 := frozen_of_heap hR 1
    have f2 := frozen_of_heap hR 2
    have HF : Hid (w.heap.size ≤ D ∧ W.heap[D]? = some (.deferred (some [])) ∧ W.heap[w.heap.size]? = some (.cells (cnt8 0 0 0) 50 (0, 0)) ∧ Below w.heap.size w W) := ⟨by omega, hK, hR, hB⟩
    clear hN hS hR hB hK hD
    gi_wp2
    go_wp2
    obtain ⟨z1, z2, z3, z4⟩ := HF.out
    obtain ⟨y1, y2, y3⟩ := set3_heap8 z3 (.int .i64 (sumK8 E)) (.int .i64 (sumI8 E)) (.int .i64 (sumD8 E))
    exact count_leave w _ D w.heap.size _ _ _ _ rfl y1 (y2 D _ z2 (fun e => by subst e; rw [z3] at z2; cases z2)) z1 (z4.trans y3)
end Go.Proofs.YtgimcloadjjefabGreatDoor

/- measure: Base, Result, Inserted, Deleted, Document, Concat, Shift. -/
namespace Go.Proofs.YtgimcloadjjefabGreatDoor
open Go Go.RowKit Go.Lib
set_option linter.unusedVariables false

theorem cbase_any (k i d : Int) (w : World) (h : (0 ≤ k ∧ k ≤ 1099511627776) ∧ 0 ≤ d ∧ d ≤ 1099511627776) :
    Calls Tryz.prog 24 #[.agg (cnt8 k i d)] w fun e w' => e = .returned (.int .i64 (k + d)) ∧ Below w.heap.size w w' := by
  have hz : IntKind.i64.wrap (k + d) = k + d := by rw [IntKind.wrap_i64]; omega
  go_enter Tryz.func24, Tryz.ntmps24
  go_wp2
  go_ret
  exact ⟨rfl, (Below.refl _ _).alloc (Nat.le_refl _) _⟩
theorem cresult_any (k i d : Int) (w : World) (h : (0 ≤ k ∧ k ≤ 1099511627776) ∧ 0 ≤ i ∧ i ≤ 1099511627776) :
    Calls Tryz.prog 25 #[.agg (cnt8 k i d)] w fun e w' => e = .returned (.int .i64 (k + i)) ∧ Below w.heap.size w w' := by
  have hz : IntKind.i64.wrap (k + i) = k + i := by rw [IntKind.wrap_i64]; omega
  go_enter Tryz.func25, Tryz.ntmps25
  go_wp2
  go_ret
  exact ⟨rfl, (Below.refl _ _).alloc (Nat.le_refl _) _⟩
/-- What is known of a delta's list. -/
structure DlE (w : World) (B1 B2 : Nat) (v : Value) (E : List Op5) : Prop where
  d : DelV w B1 B2 v E
  g : ∀ o ∈ E, opE o = 0
  fit : ∀ o ∈ E, FitA o
  len : E.length ≤ 2097152
  txt : txtS E ≤ 4194304
  fits : Fits8 E
theorem DlE.below {w w' : World} {B1 B2 : Nat} {v : Value} {E : List Op5} (h : DlE w B1 B2 v E) (b : Below w.heap.size w w') : DlE w' B1 B2 v E := ⟨h.d.below b, h.g, h.fit, h.len, h.txt, h.fits⟩
theorem DlE.wel {w : World} {B1 B2 : Nat} {v : Value} {E : List Op5} (h : DlE w B1 B2 v E) : ∀ o ∈ E, Wel o := fun o ho => wel_of (h.g o ho)
theorem DlE.n {w : World} {B1 B2 : Nat} {v : Value} {E : List Op5} (h : DlE w B1 B2 v E) : ∀ o ∈ E, o.A.length ≤ 2097152 := fun o ho => by have := (h.fit o ho).n; omega
theorem DlE.sums {w : World} {B1 B2 : Nat} {v : Value} {E : List Op5} (h : DlE w B1 B2 v E) : (0 ≤ sumK8 E ∧ sumK8 E ≤ 1099511627776) ∧ (0 ≤ sumI8 E ∧ sumI8 E ≤ 1099511627776) ∧ (0 ≤ sumD8 E ∧ sumD8 E ≤ 1099511627776) ∧ sumB E = sumK8 E + sumD8 E ∧ sumR E = sumK8 E + sumI8 E := by
  have h1 := sums_three h.wel
  have h2 := h.fits
  unfold Fits8 at h2
  omega
theorem count_any8 {B1 B2 : Nat} (v : Value) (E : List Op5) (w : World) (h : DlE w B1 B2 v E) :
    Calls Tryz.prog 23 #[v] w fun e w' => e = .returned (.agg (cnt8 (sumK8 E) (sumI8 E) (sumD8 E))) ∧ Below w.heap.size w w' :=
  count8_any v E w h.d h.g h.n (Nat.le_trans h.len (by decide)) h.fits
theorem base8_any {B1 B2 : Nat} (v : Value) (E : List Op5) (w : World) (h : DlE w B1 B2 v E) :
    Calls Tryz.prog 9 #[v] w fun e w' => e = .returned (.int .i64 (sumB E)) ∧ Below w.heap.size w w' := by
  have c := count_any8 v E w h
  have hs := h.sums
  have c2 := fun W => cbase_any (sumK8 E) (sumI8 E) (sumD8 E) W ⟨hs.1, hs.2.2.1⟩
  rw [← hs.2.2.2.1] at c2
  obtain ⟨q, pv, PL, rfl, _⟩ := h.d
  clear hs h
  go_enter Tryz.func9, Tryz.ntmps9
  go_wp2_with fail
  refine c.mono ?_; rintro r w2 ⟨rfl, b2⟩
  go_wp2_with fail
  refine (c2 _).mono ?_; rintro r w3 ⟨rfl, b3⟩
  have b := b2.trans (b3.mono b2.size)
  go_wp2
  go_ret
  exact ⟨rfl, b⟩
theorem result8_any {B1 B2 : Nat} (v : Value) (E : List Op5) (w : World) (h : DlE w B1 B2 v E) :
    Calls Tryz.prog 10 #[v] w fun e w' => e = .returned (.int .i64 (sumR E)) ∧ Below w.heap.size w w' := by
  have c := count_any8 v E w h
  have hs := h.sums
  have c2 := fun W => cresult_any (sumK8 E) (sumI8 E) (sumD8 E) W ⟨hs.1, hs.2.1⟩
  rw [← hs.2.2.2.2] at c2
  obtain ⟨q, pv, PL, rfl, _⟩ := h.d
  clear hs h
  go_enter Tryz.func10, Tryz.ntmps10
  go_wp2_with fail
  refine c.mono ?_; rintro r w2 ⟨rfl, b2⟩
  go_wp2_with fail
  refine (c2 _).mono ?_; rintro r w3 ⟨rfl, b3⟩
  have b := b2.trans (b3.mono b2.size)
  go_wp2
  go_ret
  exact ⟨rfl, b⟩
set_option maxRecDepth 100000 in
theorem ins8_any {B1 B2 : Nat} (v : Value) (E : List Op5) (w : World) (h : DlE w B1 B2 v E) :
    Calls Tryz.prog 11 #[v] w fun e w' => e = .returned (.int .i64 (sumI8 E)) ∧ Below w.heap.size w w' := by
  have c := count_any8 v E w h
  obtain ⟨q, pv, PL, rfl, _⟩ := h.d
  obtain ⟨K, hK⟩ : ∃ x, sumK8 E = x := ⟨_, rfl⟩
  obtain ⟨I, hI⟩ : ∃ x, sumI8 E = x := ⟨_, rfl⟩
  obtain ⟨D, hD⟩ : ∃ x, sumD8 E = x := ⟨_, rfl⟩
  rw [hK, hI, hD] at c
  rw [hI]
  have hfld : ∀ W : World, (Instr.field 50 (.agg #[.int .i64 K, .int .i64 I, .int .i64 D]) 1).run Tryz.prog W = .ok (.int .i64 I) W := fun _ => by kernel_rfl
  unfold cnt8 at c
  clear h hK hI hD
  go_enter Tryz.func11, Tryz.ntmps11
  go_wp2_with fail
  refine c.mono ?_; rintro r w2 ⟨rfl, b2⟩
  go_wp2
  go_ret
  exact ⟨rfl, b2⟩
set_option maxRecDepth 100000 in
theorem dl8_any {B1 B2 : Nat} (v : Value) (E : List Op5) (w : World) (h : DlE w B1 B2 v E) :
    Calls Tryz.prog 12 #[v] w fun e w' => e = .returned (.int .i64 (sumD8 E)) ∧ Below w.heap.size w w' := by
  have c := count_any8 v E w h
  obtain ⟨q, pv, PL, rfl, _⟩ := h.d
  obtain ⟨K, hK⟩ : ∃ x, sumK8 E = x := ⟨_, rfl⟩
  obtain ⟨I, hI⟩ : ∃ x, sumI8 E = x := ⟨_, rfl⟩
  obtain ⟨D, hD⟩ : ∃ x, sumD8 E = x := ⟨_, rfl⟩
  rw [hK, hI, hD] at c
  rw [hD]
  have hfld : ∀ W : World, (Instr.field 50 (.agg #[.int .i64 K, .int .i64 I, .int .i64 D]) 2).run Tryz.prog W = .ok (.int .i64 D) W := fun _ => by kernel_rfl
  unfold cnt8 at c
  clear h hK hI hD
  go_enter Tryz.func12, Tryz.ntmps12
  go_wp2_with fail
  refine c.mono ?_; rintro r w2 ⟨rfl, b2⟩
  go_wp2
  go_ret
  exact ⟨rfl, b2⟩
theorem doc8_any {B1 B2 : Nat} (v : Value) (E : List Op5) (w : World) (h : DlE w B1 B2 v E) :
    Calls Tryz.prog 13 #[v] w fun e w' => e = .returned (.bool (sumB E == 0)) ∧ Below w.heap.size w w' := by
  have c := base8_any v E w h
  obtain ⟨q, pv, PL, rfl, _⟩ := h.d
  clear h
  go_enter Tryz.func13, Tryz.ntmps13
  go_wp2_with fail
  refine c.mono ?_; rintro r w2 ⟨rfl, b2⟩
  go_wp2
  go_ret
  exact ⟨rfl, b2⟩
theorem pieD_append {w : World} {B : Nat} {P1 P2 : List Value} {E F : List Op5} (h : PieD w B P1 E) (k : PieD w B P2 F) : PieD w B (P1 ++ P2) (E ++ F) := forall2_append h k
theorem cat_bounds {E F : List Op5} (gE : ∀ o ∈ E, opE o = 0) (gF : ∀ o ∈ F, opE o = 0) : ∀ o ∈ E ++ F, opE o = 0 := fun o ho => (List.mem_append.1 ho).elim (gE o) (gF o)
/-- What Concat answers. -/
def CatR (a : Nat → Addr) (w w' : World) (L : List Op5) (dv er : Value) : Prop :=
  (Fits8 L → er = .nilIface ∧ DelV w' w.heap.size w.heap.size dv (canonL L)) ∧ (¬ Fits8 L → er = errV a 10 ∧ dv = .pointer none)
theorem delV_low {w : World} {B1 B2 C : Nat} {v : Value} {E : List Op5} (h : DelV w B1 B2 v E) (h1 : C ≤ B1) (h2 : C ≤ B2) : DelV w C C v E := by
  obtain ⟨q, pv, PL, x1, x2, x3, x4, x5⟩ := h
  exact ⟨q, pv, PL, x1, Nat.le_trans h1 x2, x3, own_weaken x4 h1, x5.weaken h2⟩
set_option maxHeartbeats 2000000 in
set_option maxRecDepth 100000 in
theorem concat8_any {I : List Nat} {a : Nat → Addr} {B1 B2 C1 C2 : Nat} (v u : Value) (E F : List Op5) (w : World) (hI : ∀ i ∈ IxO, i ∈ I) (hS : Std I a w) (hE : DlE w B1 B2 v E) (hF : DlE w C1 C2 u F) (hl : E.length + F.length ≤ 2097152) :
    Calls Tryz.prog 15 #[v, u] w fun r w' => ∃ dv er, r = .returned (.tuple #[dv, er]) ∧ CatR a w w' (E ++ F) dv er ∧ Below w.heap.size w w' := by
  have c1 := pieces_any v E w hE.d hE.g hE.n (Nat.le_trans hE.len (by decide))
  have HF : Hid (DlE w C1 C2 u F ∧ DlE w B1 B2 v E) := ⟨hF, hE⟩
  have HG : Hid (∀ (g : Value) (PL : List Value) (B D : Nat) W, Below w.heap.size w W → OwnI W B g PL → PieD W D PL (E ++ F) → Calls Tryz.prog 28 #[g] W fun r w' => ∃ dv er, r = .returned (.tuple #[dv, er]) ∧ Hid (CatR a w w' (E ++ F) dv er) ∧ Below w.heap.size w w') := fun g PL B D W hb h1 h2 => by
    have ht := hE.txt
    have ht2 := hF.txt
    refine (gath8_any g PL (E ++ F) W hI (hS.below hb) h1 h2 (cat_bounds hE.g hF.g) (fun o ho => (List.mem_append.1 ho).elim (hE.fit o) (hF.fit o)) (by rw [List.length_append]; exact hl) (by rw [txtS_append]; omega)).mono ?_
    rintro r w' ⟨dv, er, rfl, x1, x2, x3⟩
    exact ⟨dv, er, rfl, ⟨fun h => ⟨(x1 h).1, delV_low (x1 h).2 hb.size hb.size⟩, x2⟩, hb.trans (x3.mono hb.size)⟩
  obtain ⟨q1, pv1, PL1, rfl, _⟩ := hE.d
  obtain ⟨q2, pv2, PL2, rfl, _⟩ := hF.d
  clear hE hF hS
  go_enter Tryz.func15, Tryz.ntmps15
  go_wp2_with fail
  refine c1.mono ?_; rintro r w2 ⟨v2, rfl, ⟨P, own2, pie2⟩, b2⟩
  obtain ⟨p2, n2, rfl⟩ := own_slice own2
  have H2 : Hid (OwnI w2 w.heap.size (.slice p2 P.length n2) P ∧ PieD w2 w.heap.size P E) := ⟨own2, pie2⟩
  have h3 := HF.out.1.below b2
  have c2 := pieces_any _ F w2 h3.d h3.g h3.n (Nat.le_trans h3.len (by decide))
  clear c1 own2 pie2 h3
  go_wp2_with fail
  refine c2.mono ?_; rintro r w3 ⟨v3, rfl, ⟨Q, own3, pie3⟩, b3⟩
  obtain ⟨p3, n3, rfl⟩ := own_slice own3
  have ba : Below w3.heap.size w3 (w3.alloc (.cells #[.slice p2 P.length n2, .slice p3 Q.length n3] 55)) := (Below.refl _ _).alloc (Nat.le_refl _) _
  have b03 := b2.trans (b3.mono b2.size)
  have b04 := b03.trans (ba.mono b03.size)
  have H4 : Hid (OwnI (w3.alloc (.cells #[.slice p2 P.length n2, .slice p3 Q.length n3] 55)) w.heap.size (.slice p2 P.length n2) P ∧ OwnI (w3.alloc (.cells #[.slice p2 P.length n2, .slice p3 Q.length n3] 55)) w2.heap.size (.slice p3 Q.length n3) Q ∧ PieD (w3.alloc (.cells #[.slice p2 P.length n2, .slice p3 Q.length n3] 55)) w.heap.size (P ++ Q) (E ++ F)) :=
    ⟨owns_below (owns_below H2.out.1 b3) ba, owns_below own3 ba, pieD_append ((H2.out.2.below b3).below ba) ((pie3.weaken b2.size).below ba)⟩
  have hlP : P.length = E.length := forall2_len H2.out.2
  have hlQ : Q.length = F.length := forall2_len pie3
  have c3 := conc8_any (.slice p2 P.length n2) (.slice p3 Q.length n3) P Q w3.heap.size 2 (w3.alloc (.cells #[.slice p2 P.length n2, .slice p3 Q.length n3] 55)) (by simp) (by simp) H4.out.1 H4.out.2.1 (pie_one H2.out.2) (pie_one pie3) (by omega) (Nat.le_refl _)
  clear c2 own3 pie3 H2 hlP hlQ b03 b2 b3
  go_wp2_with fail
  refine c3.mono ?_; rintro r w5 ⟨v5, rfl, own5, b5⟩
  obtain ⟨p5, n5, e5⟩ := own_slice own5
  obtain ⟨m5, hm5⟩ : ∃ m, (P ++ Q).length = m := ⟨_, rfl⟩
  rw [hm5] at e5
  have c4 := HG.out v5 (P ++ Q) _ _ w5 (b04.trans (b5.mono b04.size)) own5 (H4.out.2.2.below b5)
  subst e5
  clear c3 own5 ba H4 HG hm5
  go_wp2_with fail
  refine c4.mono ?_; rintro r w6 ⟨dv, er, rfl, hR, b6⟩
  clear c4 b5 b04
  by_cases hf : Fits8 (E ++ F)
  · obtain ⟨rfl, hd⟩ := hR.out.1 hf
    obtain ⟨q, pv, PL, rfl, _⟩ := id hd
    clear hd hf
    go_wp2
    go_ret2
    exact ⟨_, _, rfl, hR.out, b6⟩
  · obtain ⟨rfl, rfl⟩ := hR.out.2 hf
    clear hf
    go_wp2
    go_ret2
    exact ⟨_, _, rfl, hR.out, b6⟩
end Go.Proofs.YtgimcloadjjefabGreatDoor

/- A piece cut in two. -/
namespace Go.Proofs.YtgimcloadjjefabGreatDoor
open Go Go.RowKit Go.Lib
set_option linter.unusedVariables false

theorem heap_drw7 (W : World) (k : Nat) : W.drew.heap[k]? = W.heap[k]? := rfl
theorem box3 (w : World) (o : Array Value) (T : TypeId) (W : World) (hW : (((w.alloc (.cells o T)).alloc (.cells o T)).alloc (.cells o T)).drew = W) : W.heap[w.heap.size + 1]? = some (.cells o T (0, 0)) ∧ W.heap[w.heap.size + 1 + 1]? = some (.cells o T (0, 0)) ∧ Below (w.heap.size + 1) (w.alloc (.cells o T)) W := by
  subst hW
  have e1 := heap_alloc_new (w.alloc (.cells o T)) (.cells o T)
  have e2 := heap_alloc_new ((w.alloc (.cells o T)).alloc (.cells o T)) (.cells o T)
  simp only [World.size_alloc] at e1 e2
  refine ⟨?_, e2, ?_⟩
  · exact ((Below.refl ((w.alloc (.cells o T)).alloc (.cells o T)).heap.size _).alloc (Nat.le_refl _) _).block (w.heap.size + 1) (by simp) |>.trans e1
  · exact (((Below.refl (w.alloc (.cells o T)).heap.size _).alloc (Nat.le_refl _) _).alloc (by simp) _).drew.mono (by simp)
set_option maxHeartbeats 2000000 in
set_option maxRecDepth 100000 in
theorem cutText_any (p : Option Addr) (l c : Nat) (t : ByteArray) (N : Int) (A : List A2) (rs : List Nat) (m : Nat) (w : World) (hR : RN w (.slice p l c) A) (hl : A.length ≤ 2097152)
    (hv : t.data.toList = encs rs) (hs : ∀ r ∈ rs, scal r) (hm : m ≤ rs.length) (ht : t.size ≤ 8388608) (hrl : rs.length ≤ t.size) (hN : (m : Int) ≤ N) (hN2 : N ≤ 8388608) :
    Calls Tryz.prog 72 #[.agg #[.slice p l c, .string t, .int .i64 N], .int .i64 m] w fun r w' => ∃ p' c', r = .returned (.tuple #[.iface 111 (.agg #[.slice p' A.length c', .string (t.extract 0 (pos rs m)), .int .i64 m]), .iface 111 (.agg #[.slice p l c, .string (t.extract (pos rs m) t.size), .int .i64 (N - m)])]) ∧ OwnA w' w.heap.size (.slice p' A.length c') A ∧ Below w.heap.size w w' := by
  have cP := fun W => placeOf_any t rs m W hv hs hm (by omega) hrl
  have cA := fun W (hW : Below w.heap.size w W) => attributes_any (.slice p l c) A W (hR.below hW).row hR.nz hl
  have hpt : pos rs m ≤ t.size := by have := pos_le rs m; have := size_toList t; rw [hv] at this; omega
  obtain ⟨x, hx⟩ : ∃ x, pos rs m = x := ⟨_, rfl⟩
  rw [hx] at hpt
  simp only [hx] at cP ⊢
  clear hR hl hv hs hx hrl
  go_enter Tryz.func72, Tryz.ntmps72
  go_upto_region 1 with fail
  go_cut [6, 7] (fun x6 x7 wx => ∃ X Y, x6 = .pointer (some ⟨X, 0, none⟩) ∧ x7 = .pointer (some ⟨Y, 0, none⟩) ∧ X ≠ Y ∧ w.heap.size < X ∧ w.heap.size < Y ∧ wx.heap[X]? = some (.cells #[.slice p l c, .string t, .int .i64 N] 111 (0, 0)) ∧ wx.heap[Y]? = some (.cells #[.slice p l c, .string t, .int .i64 N] 111 (0, 0)) ∧ Below (w.heap.size + 1) (w.alloc (.cells #[.slice p l c, .string t, .int .i64 N] 111)) wx)
  case first =>
    go_region
    all_goals (try go_wp2)
    all_goals go_meet
    all_goals obtain ⟨h1, h2, hB⟩ := box3 w _ _ _ rfl
    · exact ⟨_, _, rfl, rfl, by omega, by omega, by omega, h1, h2, hB⟩
    · exact ⟨_, _, rfl, rfl, by omega, by omega, by omega, h2, h1, hB⟩
  case rest =>
    obtain ⟨X, Y, rfl, rfl, nXY, lX, lY, hX, hY, hB⟩ := hcut
    have hb0 : Below w.heap.size w wc := ((Below.refl _ w).alloc (Nat.le_refl _) _).trans (hB.mono (by omega))
    have k0 : wc.heap[w.heap.size]? = some (.cells #[.slice p l c, .string t, .int .i64 N] 111 (0, 0)) := (hB.block _ (by omega)).trans (heap_alloc_new w _)
    have zX := (Array.getElem?_eq_some_iff.1 hX).1
    have zY := (Array.getElem?_eq_some_iff.1 hY).1
    have d1 : wc.cell? ⟨w.heap.size, 1, none⟩ = some (.string t) := by rw [cell_of_heap k0]; rfl
    go_wp2_with fail
    refine (cP _).mono ?_; rintro r w2 ⟨rfl, hb2⟩
    have b2 := hb0.trans (hb2.mono hb0.size)
    have m0 := heap_below hb2 k0
    have mX := heap_below hb2 hX
    have mY := heap_below hb2 hY
    clear d1 k0 hX hY hb0
    have d0 : w2.cell? ⟨w.heap.size, 0, none⟩ = some (.slice p l c) := by rw [cell_of_heap m0]; rfl
    go_wp2_with fail
    refine (cA _ b2).mono ?_; rintro r w3 ⟨v', rfl, own3, hb3⟩
    obtain ⟨p', c', rfl⟩ := own_slice own3
    have b3 := b2.trans (hb3.mono b2.size)
    have q0 := heap_below hb3 m0
    have qX := heap_below hb3 mX
    have qY := heap_below hb3 mY
    have d1 : w3.cell? ⟨w.heap.size, 1, none⟩ = some (.string t) := by rw [cell_of_heap q0]; rfl
    have x0 : w3.cell? ⟨X, 0, none⟩ = some (.slice p l c) := by rw [cell_of_heap qX]; rfl
    have x1 : w3.cell? ⟨X, 1, none⟩ = some (.string t) := by rw [cell_of_heap qX]; rfl
    have x2 : w3.cell? ⟨X, 2, none⟩ = some (.int .i64 N) := by rw [cell_of_heap qX]; rfl
    have y0 : w3.cell? ⟨Y, 0, none⟩ = some (.slice p l c) := by rw [cell_of_heap qY]; rfl
    have y1 : w3.cell? ⟨Y, 1, none⟩ = some (.string t) := by rw [cell_of_heap qY]; rfl
    have y2 : w3.cell? ⟨Y, 2, none⟩ = some (.int .i64 N) := by rw [cell_of_heap qY]; rfl
    have g0 : w3.frozen? ⟨X, 0, none⟩ = false := frozen_of_heap qX 0
    have g1 : w3.frozen? ⟨X, 1, none⟩ = false := frozen_of_heap qX 1
    have g2 : w3.frozen? ⟨X, 2, none⟩ = false := frozen_of_heap qX 2
    have k1 : w3.frozen? ⟨Y, 1, none⟩ = false := frozen_of_heap qY 1
    have k2 : w3.frozen? ⟨Y, 2, none⟩ = false := frozen_of_heap qY 2
    have n1 : ¬ X = w.heap.size := by omega
    have n2 : ¬ w.heap.size = X := by omega
    have n3 : ¬ Y = w.heap.size := by omega
    have n4 : ¬ w.heap.size = Y := by omega
    have n5 : ¬ X = Y := nXY
    have n6 : ¬ Y = X := Ne.symm nXY
    have z1 : w.heap.size ≤ X := by omega
    have z2 : w.heap.size ≤ Y := by omega
    have z3 : w.heap.size ≤ w2.heap.size := b2.size
    have hxt : (x : Int) ≤ t.size := by omega
    have hs3 : Hid (OwnA w3 w.heap.size (.slice p' A.length c') A ∧ (∀ k, (Value.slice p' A.length c').ownBlock = some k → k ≠ X ∧ k ≠ Y)) := ⟨own_weaken own3 z3, fun k hk => by have h1 := (owns_block own3 k hk).1; have := (Array.getElem?_eq_some_iff.1 mX).1; have := (Array.getElem?_eq_some_iff.1 mY).1; omega⟩
    have HB3 : Hid (Below w.heap.size w w3) := b3
    clear q0 qX qY m0 mX mY own3 hb3 b3 b2 hb2 d0 lX lY nXY hB zX zY cP cA
    go_wp2
    go_region
    go_wp2
    go_region
    go_wp2
    go_ret2
    refine ⟨p', c', rfl, ?_, ?_⟩
    · exact owns_same hs3.out.1 (fun k hk => by
        obtain ⟨e1, e2⟩ := hs3.out.2 k hk
        repeat (with_reducible first | (refine (heap_drw7 _ _).trans ?_) | (refine (Below.heap_setCell _ _ _ _ e1).trans ?_) | (refine (Below.heap_setCell _ _ _ _ e2).trans ?_) | rfl))
    · repeat (with_reducible first | exact HB3.out | (refine Below.drew ?_) | (refine Below.setCell ?_ (p := ⟨X, _, none⟩) z1 _) | (refine Below.setCell ?_ (p := ⟨Y, _, none⟩) z2 _))
end Go.Proofs.YtgimcloadjjefabGreatDoor

/- The Walker's calls. -/
namespace Go.Proofs.YtgimcloadjjefabGreatDoor
open Go Go.RowKit Go.Lib
set_option linter.unusedVariables false

theorem as_i_e7 (v : Value) (W : World) : (Instr.typeAssert (.iface 111 v) 60 116 true).run Tryz.prog W = .ok (.tuple #[.agg #[.slice none 0 0, .string ⟨#[]⟩, .nilIface], .bool false]) W := by kernel_rfl
/-- What comes next. -/
def top7 : List Op5 → Op5
  | [] => pl7 1099511627776
  | x :: _ => x
theorem top_left (R : List Op5) : len5 (top7 R) = left7 R := by
  cases R with
  | nil => exact (pl_good (by omega) (by omega)).2
  | cons x r => rfl
theorem top_kind (R : List Op5) : (top7 R).k = kind7 R := by cases R <;> rfl
theorem top_good {R : List Op5} (h : ∀ o ∈ R, opE o = 0) : opE (top7 R) = 0 := by
  cases R with
  | nil => exact (pl_good (by omega) (by omega)).1
  | cons x r => exact h x (List.mem_cons_self ..)
theorem pieceQ_pl (n : Int) : pieceQ (pl7 n) (.slice none 0 0) = .iface 73 (.agg #[.slice none 0 0, .int .i64 n]) := pieceQ_3 rfl
end Go.Proofs.YtgimcloadjjefabGreatDoor

/- measure: Shift. -/
namespace Go.Proofs.YtgimcloadjjefabGreatDoor
open Go Go.RowKit Go.Lib
set_option linter.unusedVariables false

/-- Does a shift keep the bound? -/
def FitSh (E : List Op5) (n : Int) : Prop := E = [] ∨ (n + sumB E ≤ 1099511627776 ∧ n + sumR E ≤ 1099511627776)
/-- What Shift answers. -/
def ShR (a : Nat → Addr) (w' : World) (E : List Op5) (n : Int) (dv er : Value) : Prop :=
  ((n < 0 ∨ 1099511627776 < n) → dv = .pointer none ∧ er = errV a 11) ∧
  (¬ (n < 0 ∨ 1099511627776 < n) → (FitSh E n → er = .nilIface ∧ ∃ C1 C2, DelV w' C1 C2 dv (shift8 E n)) ∧ (¬ FitSh E n → er = errV a 10 ∧ dv = .pointer none))
theorem pl_sums (n : Int) (E : List Op5) : sumB (pl7 n :: E) = n + sumB E ∧ sumR (pl7 n :: E) = n + sumR E := by
  rw [sumB_cons, sumR_cons, base_3 (.inl rfl), res_3 rfl]
  exact ⟨rfl, rfl⟩
theorem fits_sh {E : List Op5} {n : Int} (h0 : E ≠ []) : Fits8 (pl7 n :: E) ↔ FitSh E n := by
  obtain ⟨h1, h2⟩ := pl_sums n E
  unfold Fits8 FitSh
  rw [h1, h2]
  simp [h0]
theorem own_oneP (w : World) (B : Nat) {g : Nat} {V : Value} (h : w.heap[g]? = some (.cells #[V] 60 (0, 0))) (hB : B ≤ g) : OwnI w B (.slice (some ⟨g, 0, none⟩) 1 1) [V] :=
  ⟨rfl, Or.inr ⟨g, 1, #[V], rfl, hB, h, Nat.le_refl _, by unfold maxLen; omega, rfl, rfl⟩⟩
abbrev plV8 (n : Int) : Value := .iface 73 (.agg #[.slice none 0 0, .int .i64 n])
theorem pl_fit (n : Int) : FitA (pl7 n) := ⟨by show (0 : Nat) ≤ 1048576; decide, fun q hq => (by cases hq), by show (0 : Nat) ≤ 1048576; decide⟩
set_option maxHeartbeats 2000000 in
set_option maxRecDepth 100000 in
theorem shift8_any {I : List Nat} {a : Nat → Addr} {B1 B2 : Nat} (v : Value) (E : List Op5) (n : Int) (w : World) (hI : ∀ i ∈ IxO, i ∈ I) (h11 : 11 ∈ I) (hS : Std I a w) (hE : DlE w B1 B2 v E) (hl : E.length + 1 ≤ 2097152) (hn : -9223372036854775808 ≤ n ∧ n ≤ 9223372036854775807) :
    Calls Tryz.prog 20 #[v, .int .i64 n] w fun r w' => ∃ dv er, r = .returned (.tuple #[dv, er]) ∧ ShR a w' E n dv er ∧ Below w.heap.size w w' := by
  have hd := hE.d
  obtain ⟨q1, pv1, PL1, rfl, _⟩ := id hd
  have cC := count_any5 _ E w hd
  by_cases hn0 : n < 0 ∨ 1099511627776 < n
  · have gL : w.cell? ⟨1, 0, none⟩ = some (errV a 11) := hS.er.cell 11 h11
    have HR : Hid (∀ W, ShR a W E n (.pointer none) (errV a 11)) := fun W => ⟨fun _ => ⟨rfl, rfl⟩, fun h => absurd hn0 h⟩
    clear cC hd hE hS
    by_cases h1 : n < 0
    · clear hn0
      go_enter Tryz.func20, Tryz.ntmps20
      go_wp2
      go_quiet (fail)
      go_wp2
      go_ret2
      exact ⟨_, _, rfl, HR.out _, below_drewN (Below.refl _ _) _⟩
    · have h2 : n > 1099511627776 := by omega
      clear hn0
      go_enter Tryz.func20, Tryz.ntmps20
      go_wp2
      go_quiet (fail)
      go_wp2
      go_ret2
      exact ⟨_, _, rfl, HR.out _, below_drewN (Below.refl _ _) _⟩
  · have h1 : ¬ n < 0 := by omega
    have h2 : ¬ n > 1099511627776 := by omega
    by_cases hz : n = 0
    · subst hz
      have HR : Hid (∀ W, Below w.heap.size w W → ShR a W E 0 (.pointer (some ⟨q1, 0, none⟩)) .nilIface) := fun W hW => ⟨fun h => absurd h hn0, fun _ => ⟨fun _ => ⟨rfl, B1, B2, by
        have e : shift8 E 0 = E := if_pos (Or.inl rfl)
        rw [e]; exact hd.below hW⟩, fun h => absurd (Or.inr (by have := hE.fits; unfold Fits8 at this; omega)) h⟩⟩
      clear hd hE hS cC hn0
      go_enter Tryz.func20, Tryz.ntmps20
      go_wp2
      go_ret2
      exact ⟨_, _, rfl, HR.out _ (Below.refl _ _), Below.refl _ _⟩
    · have hzb : (n == 0) = false := by simpa using hz
      by_cases h0 : E = []
      · subst h0
        have HR : Hid (∀ W, Below w.heap.size w W → ShR a W [] n (.pointer (some ⟨q1, 0, none⟩)) .nilIface) := fun W hW => ⟨fun h => absurd h hn0, fun _ => ⟨fun _ => ⟨rfl, B1, B2, by
          have e : shift8 [] n = [] := if_pos (Or.inr rfl)
          rw [e]; exact hd.below hW⟩, fun h => absurd (Or.inl rfl) h⟩⟩
        clear hd hE hS hn0 hz
        go_enter Tryz.func20, Tryz.ntmps20
        go_wp2_with fail
        refine cC.mono ?_; rintro r w2 ⟨rfl, b2⟩
        go_wp2
        go_ret2
        exact ⟨_, _, rfl, HR.out _ b2, b2⟩
      · have hlb : ((E.length : Int) == 0) = false := by simpa using h0
        have e8 : shift8 E n = canonL (pl7 n :: E) := if_neg (by simp [hz, h0])
        have cP : Hid (∀ W, Below w.heap.size w W → Calls Tryz.prog 30 #[.pointer (some ⟨q1, 0, none⟩)] W fun r w' => ∃ p nn PA, r = .returned (.slice p E.length nn) ∧ Hid (PA.length = E.length ∧ ∀ W', Below w'.heap.size w' W' → OwnI W' w.heap.size (.slice p E.length nn) PA ∧ PieD W' w.heap.size PA E) ∧ Below W.heap.size W w' ∧ Below w.heap.size w w') := fun W hW => by
          have h := hE.below hW
          refine (pieces_any _ E W h.d h.g h.n (Nat.le_trans h.len (by decide))).mono ?_
          rintro r w' ⟨v', rfl, ⟨P, own, pie⟩, b⟩
          have hPE : P.length = E.length := forall2_len pie
          obtain ⟨p, nn, rfl⟩ := own_slice own
          rw [hPE] at own ⊢
          exact ⟨p, nn, P, rfl, ⟨hPE, fun W' hb => ⟨owns_below (own_weaken own hW.size) hb, (pie.weaken hW.size).below hb⟩⟩, b, hW.trans (b.mono hW.size)⟩
        have cK : Hid (∀ W g1 b p nn PA, W.heap[g1]? = some (.cells #[plV8 n] 60 (0, 0)) → W.cell? ⟨b, 0, none⟩ = some (.slice (some ⟨g1, 0, none⟩) 1 1) → W.cell? ⟨b, 1, none⟩ = some (.slice p E.length nn) → w.heap.size ≤ g1 → PA.length = E.length → (OwnI W w.heap.size (.slice p E.length nn) PA ∧ PieD W w.heap.size PA E) → Below w.heap.size w W →
            Calls Tryz.prog 29 #[.slice (some ⟨b, 0, none⟩) 2 2] W fun r w' => ∃ p5 m5 n5 PQ, r = .returned (.slice p5 m5 n5) ∧ Hid (OwnI w' w.heap.size (.slice p5 m5 n5) PQ ∧ PieD w' w.heap.size PQ (pl7 n :: E)) ∧ Below w.heap.size w w') := fun W g1 b p nn PA hg hb0 hb1 hge hPE ⟨ho, hp⟩ hW => by
          refine (conc8_any (.slice (some ⟨g1, 0, none⟩) 1 1) (.slice p E.length nn) [plV8 n] PA b 2 W hb0 hb1 (own_oneP W w.heap.size hg hge) ho (by intro u hu; rw [List.mem_singleton.1 hu]; rfl) (pie_one hp) (by rw [hPE]; simp; omega) (Nat.le_refl _)).mono ?_
          rintro r w' ⟨v', rfl, own, b'⟩
          have h := hp.below b'
          have h2 : PieD w' w.heap.size ([plV8 n] ++ PA) ([pl7 n] ++ E) := forall2_append (.cons ⟨.slice none 0 0, (pieceQ_pl n).symm, World.ownsRow_nil _ _ _ _⟩ .nil) h
          obtain ⟨p5, n5, rfl⟩ := own_slice own
          exact ⟨p5, _, n5, _, rfl, ⟨own_weaken own hW.size, h2⟩, hW.trans (b'.mono hW.size)⟩
        have cG : Hid (∀ W p5 m5 n5 PQ, Below w.heap.size w W → (OwnI W w.heap.size (.slice p5 m5 n5) PQ ∧ PieD W w.heap.size PQ (pl7 n :: E)) → Calls Tryz.prog 28 #[.slice p5 m5 n5] W fun r w' => ∃ dv er, r = .returned (.tuple #[dv, er]) ∧ Hid (ShR a w' E n dv er) ∧ Below w.heap.size w w') := fun W p5 m5 n5 PQ hW ⟨ho, hp⟩ => by
          have hg : ∀ o ∈ pl7 n :: E, opE o = 0 := fun o ho => by
            rcases List.mem_cons.1 ho with rfl | ho
            · exact (pl_good (by omega) (by omega)).1
            · exact hE.g o ho
          refine (gath8_any _ PQ (pl7 n :: E) W hI (hS.below hW) ho hp hg (fun o ho => (List.mem_cons.1 ho).elim (fun e => e ▸ pl_fit n) (hE.fit o)) (by simpa using hl) (by rw [txtS_cons]; have := hE.txt; show 0 + _ ≤ _; omega)).mono ?_
          rintro r w' ⟨dv, er, rfl, x1, x2, x3⟩
          refine ⟨dv, er, rfl, ⟨fun h => absurd h hn0, fun _ => ⟨fun h => ?_, fun h => x2 (fun hf => h ((fits_sh h0).1 hf))⟩⟩, hW.trans (x3.mono hW.size)⟩
          obtain ⟨y1, y2⟩ := x1 ((fits_sh h0).2 h)
          rw [← e8] at y2
          exact ⟨y1, _, _, y2⟩
        obtain ⟨m, hm⟩ : ∃ m, E.length = m := ⟨_, rfl⟩
        rw [hm] at hlb cC cP cK
        have HM : Hid (E.length = m) := hm
        clear hd hE hS hn0 hz e8 hm hl
        go_enter Tryz.func20, Tryz.ntmps20
        go_wp2_with fail
        refine cC.mono ?_; rintro r w2 ⟨rfl, b2⟩
        have hz2 := b2.size
        obtain ⟨w3, hw3⟩ : ∃ W, w2.alloc (.cells #[.slice none 0 0, .int .i64 n] 73) = W := ⟨_, rfl⟩
        have b3 : Below w.heap.size w w3 := by rw [← hw3]; exact b2.trans (((Below.refl _ _).alloc (Nat.le_refl _) _).mono hz2)
        have k0 : w3.cell? ⟨w2.heap.size, 0, none⟩ = some (.slice none 0 0) := by rw [← hw3]; simp
        have k1 : w3.cell? ⟨w2.heap.size, 1, none⟩ = some (.int .i64 n) := by rw [← hw3]; simp
        go_upto_region 6 with fail
        try rw [hw3]
        obtain ⟨X, hX⟩ : ∃ X, w2.heap.size = X := ⟨_, rfl⟩
        rw [hX] at k0 k1 ⊢
        have bd : Below w.heap.size w w3.drew := b3.drew
        have bx : ∀ x, Below w.heap.size w (w3.alloc x).drew := fun x => (b3.alloc b3.size x).drew
        have h3d : Below w3.heap.size w3 w3.drew := (Below.refl _ _).drew
        have h3x : ∀ x, Below w3.heap.size w3 (w3.alloc x).drew := fun x => ((Below.refl _ _).alloc (Nat.le_refl _) x).drew
        have HC : Hid (∀ W', Below w3.heap.size w3 W' → W'.cell? ⟨X, 0, none⟩ = some (.slice none 0 0) ∧ W'.cell? ⟨X, 1, none⟩ = some (.int .i64 n)) := fun W' h => ⟨(h.cell (lt_of_cell k0)).trans k0, (h.cell (lt_of_cell k1)).trans k1⟩
        clear hw3 hX cC hz2 b2
        have md := HC.out _ (Below.refl w3.heap.size w3).drew
        have hzd : w.heap.size ≤ w3.heap.size := b3.size
        clear k0 k1
        go_region_with (first
          | (go_at_call 30; refine (cP.out _ ?_).mono ?_; (· first | exact bd | exact bx _); rintro r wA ⟨p, nn, PA, rfl, HA, bC, bA⟩; have mA := HC.out wA (by first | exact h3d.trans (bC.mono h3d.size) | exact (h3x _).trans (bC.mono (h3x _).size)))
          | (go_at_call 29; refine (cK.out _ w3.heap.size _ p nn PA (by exact heap_below ((Below.refl _ _).alloc (Nat.le_refl _) _) (heap_below bC (heap_alloc_new w3 _))) (by simp) (by simp) hzd HA.out.1 (HA.out.2 _ ((Below.refl _ _).alloc (Nat.le_refl _) _)) (bA.alloc bA.size _)).mono ?_; rintro r w5 ⟨p5, m5, n5, PQ, rfl, H5, b5⟩)
          | (go_at_call 29; refine (cK.out _ wA.heap.size _ p nn PA (by exact heap_below ((Below.refl _ _).alloc (Nat.le_refl _) _) (heap_alloc_new wA _)) (by simp) (by simp) bA.size HA.out.1 (HA.out.2 _ (((Below.refl _ _).alloc (Nat.le_refl _) _).alloc (by simp) _)) ((bA.alloc bA.size _).alloc (by simp; have := bA.size; omega) _)).mono ?_; rintro r w5 ⟨p5, m5, n5, PQ, rfl, H5, b5⟩)
          | (go_at_call 28; refine (cG.out _ _ _ _ PQ b5 H5.out).mono ?_; rintro r w6 ⟨dv, er, rfl, H6, b6⟩))
        all_goals (go_wp2; go_ret2; exact ⟨_, _, rfl, H6.out, b6⟩)
end Go.Proofs.YtgimcloadjjefabGreatDoor

/- What vellumref04.Refuse and Check answer: what an insert is refused with. -/
namespace Go.Proofs.YtgimcloadjjefabGreatDoor
open Go Go.RowKit Go.Lib
set_option linter.unusedVariables false

theorem Fit.tiny {o : Op5} (h : Fit o) : Tiny o.A := h.A

set_option maxHeartbeats 2000000 in
theorem ref_ins {I : List Nat} {a : Nat → Addr} (o : Op5) (s : Value) (w : World) (hS : Std I a w) (hR : RN w s o.A) (hF : Fit o) :
    Calls Tryz.prog 64 #[opV o s] w fun r w' => r = .returned (.int .i64 (insE o)) ∧ Below w.heap.size w w' := by
  have b0 := (Below.refl w.heap.size w).alloc (Nat.le_refl _) (.cells (opC o s) 46)
  have D0 := BoxO.new w o s
  have cU : Hid (∀ b, decide (brk o.t.data.toList = o.t.size) = b → ∀ W, Calls Tryz.prog 73 #[.string o.t] W fun r w' => r = .returned (.bool b) ∧ Below W.heap.size W w') := fun b hb W => ref_utf8 o.t W (by have := hF.t; omega) b hb
  have cV : Hid (∀ W, Calls Tryz.prog 74 #[pl o.v.1 o.v.2.1 o.v.2.2] W fun r w' => r = .returned (.int .i64 (chkP o.v)) ∧ Below W.heap.size W w') := fun W => ref_chk _ _ _ W (by have := hF.v; omega)
  have cA : Hid (∀ W, Below w.heap.size w W → Calls Tryz.prog 65 #[s, .bool false] W fun r w' => r = .returned (.int .i64 (listE false none o.A)) ∧ Below W.heap.size W w') := fun W hW => ref_check s o.A false W (hS.below hW) (hR.row.below hW) hF.tiny (by have := hF.n; omega)
  obtain ⟨E, hE⟩ : ∃ E, insE o = E := ⟨_, rfl⟩
  rw [hE]
  obtain ⟨V, hV⟩ : ∃ V, chkP o.v = V := ⟨_, rfl⟩
  obtain ⟨L, hL⟩ : ∃ L, listE false none o.A = L := ⟨_, rfl⟩
  rw [hV] at cV
  rw [hL] at cA
  have hE' : E = if fldE o ≠ 0 then fldE o else if brk o.t.data.toList ≠ o.t.size then 1 else if V ≠ 0 then V else L := by rw [← hE, ← hV, ← hL]; rfl
  have hz : o.v = z0 → V = 0 := fun h => by rw [← hV, h]; exact chk_z0
  obtain ⟨U, hU⟩ : ∃ U, decide (brk o.t.data.toList = o.t.size) = U := ⟨_, rfl⟩
  have hU' : (brk o.t.data.toList ≠ o.t.size) = (U = false) := by rw [← hU]; simp
  simp only [hU'] at hE'
  have cU : Hid (∀ W, Calls Tryz.prog 73 #[.string o.t] W fun r w' => r = .returned (.bool U) ∧ Below W.heap.size W w') := cU.out U hU
  clear hE hV hL hU hU' hF hS hR
  have HD : Hid (BoxO (w.alloc (.cells (opC o s) 46)) w.heap.size o s) := D0
  have HA : Hid (∀ W, Below (w.alloc (.cells (opC o s) 46)).heap.size (w.alloc (.cells (opC o s) 46)) W → Calls Tryz.prog 65 #[s, .bool false] W fun r w' => r = .returned (.int .i64 L) ∧ Below W.heap.size W w') := fun W hW => cA.out W (b0.trans (hW.mono b0.size))
  clear cA
  obtain ⟨k, t, ⟨x, n, u⟩, c, A⟩ := o
  obtain ⟨d0, d1, d2, d3, d4, d5, d6⟩ := D0
  simp only at d0 d1 d2 d3 d4 d5 d6 cU cV hz
  simp only [opC] at b0 d0 d1 d2 d3 d4 d5 d6 HD HA
  have gd := fun op x' y' w => guard_pl op x' y' (x, n, u) (0, 0, ⟨#[]⟩) w
  unfold fldE at hE'
  simp only at hE'
  have fin : ∀ w2, Below (w.alloc (.cells #[.int .i64 k, .string t, .int .i64 x, .int .i64 n, .string u, .int .i64 c, s] 46)).heap.size (w.alloc (.cells #[.int .i64 k, .string t, .int .i64 x, .int .i64 n, .string u, .int .i64 c, s] 46)) w2 → Below w.heap.size w w2 := fun w2 h => b0.trans (h.mono b0.size)
  by_cases k1 : k = 1
  · subst k1
    by_cases c0 : c = 0
    · subst c0
      cases he : t.toList.isEmpty with
      | true =>
        have hE2 : E = 9 := by rw [hE']; simp [he]
        subst hE2
        clear gd cU cV HA hz hE' HD fin
        go_enter Tryz.func64, Tryz.ntmps64
        go_wp2
        go_ret
        exact ⟨rfl, b0⟩
      | false =>
        by_cases hz0 : (x, n, u) = z0
        · have hne := neq_pl (x, n, u) (0, 0, ⟨#[]⟩) false (by rw [hz0]; show (!samP z0 z0) = false; rw [samP_self]; rfl)
          have hV0 := hz hz0
          cases U with
          | false =>
            have hE2 : E = 1 := by rw [hE']; simp [he, hz0]
            subst hE2
            clear hz hz0 hV0 cV HA hE' HD
            go_enter Tryz.func64, Tryz.ntmps64
            go_wp2_with fail
            refine (cU.out _).mono ?_; rintro r w2 ⟨rfl, h2⟩
            have b2 := fin _ h2
            go_wp2
            go_ret
            exact ⟨rfl, b2⟩
          | true =>
            have hE2 : E = L := by rw [hE', hV0]; simp [he, hz0]
            subst hE2
            clear hz hz0 hV0 cV hE'
            go_enter Tryz.func64, Tryz.ntmps64
            go_wp2_with fail
            refine (cU.out _).mono ?_; rintro r w2 ⟨rfl, h2⟩
            obtain ⟨p0, p1, p2, p3, p4, p5, p6⟩ := HD.out.below h2
            simp only at p0 p1 p2 p3 p4 p5 p6
            have c2 := HA.out _ h2
            have b2 := fin _ h2
            clear d0 d1 d2 d3 d4 d5 d6 h2
            go_wp2_with fail
            refine c2.mono ?_; rintro r w3 ⟨rfl, h3⟩
            go_wp2
            go_ret
            exact ⟨rfl, b2.trans (h3.mono b2.size)⟩
        · have hne := neq_pl (x, n, u) (0, 0, ⟨#[]⟩) true (by show (!samP (x, n, u) z0) = true; rw [samP_ne hz0]; rfl)
          have hE2 : E = 9 := by rw [hE']; simp [he, hz0]
          subst hE2
          clear hz hz0 cV cU HA hE' HD fin
          go_enter Tryz.func64, Tryz.ntmps64
          go_wp2
          go_ret
          exact ⟨rfl, b0⟩
    · have hc : (c == 0) = false := by simpa using c0
      have hE2 : E = 9 := by rw [hE']; simp [c0]
      subst hE2
      clear hz cV cU HA hE' HD fin c0
      go_enter Tryz.func64, Tryz.ntmps64
      go_wp2
      go_ret
      exact ⟨rfl, b0⟩
  · have hk1 : (k != 1) = true := by simpa using k1
    by_cases k2 : k = 2
    · subst k2
      clear hk1 k1
      by_cases c0 : c = 0
      · subst c0
        cases he : t.toList.isEmpty with
        | true =>
          have hE2 : E = 6 := by rw [hE']; simp [he]
          subst hE2
          clear gd cU cV HA hz hE' HD fin
          go_enter Tryz.func64, Tryz.ntmps64
          go_wp2
          go_ret
          exact ⟨rfl, b0⟩
        | false =>
          by_cases h64 : 64 < t.size
          · have h64I : (64 : Int) < (t.size : Int) := by omega
            have hE2 : E = 6 := by rw [hE']; simp [he, h64]
            subst hE2
            clear gd cU cV HA hz hE' HD fin
            go_enter Tryz.func64, Tryz.ntmps64
            go_wp2
            go_ret
            exact ⟨rfl, b0⟩
          · have h64I : ¬ (64 : Int) < (t.size : Int) := by omega
            cases U with
            | false =>
              have hE2 : E = 1 := by rw [hE']; simp [he, h64]
              subst hE2
              clear hz cV HA hE' HD gd
              go_enter Tryz.func64, Tryz.ntmps64
              go_wp2_with fail
              refine (cU.out _).mono ?_; rintro r w2 ⟨rfl, h2⟩
              have b2 := fin _ h2
              go_wp2
              go_ret
              exact ⟨rfl, b2⟩
            | true =>
              by_cases hV : V = 0
              · have hE2 : E = L := by rw [hE']; simp [he, h64, hV]
                subst hE2
                subst hV
                clear hz hE' gd
                go_enter Tryz.func64, Tryz.ntmps64
                go_wp2_with fail
                refine (cU.out _).mono ?_; rintro r w2 ⟨rfl, h2⟩
                obtain ⟨p0, p1, p2, p3, p4, p5, p6⟩ := HD.out.below h2
                simp only at p0 p1 p2 p3 p4 p5 p6
                clear d0 d1 d2 d3 d4 d5 d6
                go_wp2_with fail
                refine (cV.out _).mono ?_; rintro r w3 ⟨rfl, h3⟩
                have h23 := h2.trans (h3.mono h2.size)
                obtain ⟨q0, q1, q2, q3, q4, q5, q6⟩ := HD.out.below h23
                simp only at q0 q1 q2 q3 q4 q5 q6
                have c2 := HA.out _ h23
                have b3 := fin _ h23
                clear p0 p1 p2 p3 p4 p5 p6 h2 h3 h23
                go_wp2_with fail
                refine c2.mono ?_; rintro r w4 ⟨rfl, h4⟩
                go_wp2
                go_ret
                exact ⟨rfl, b3.trans (h4.mono b3.size)⟩
              · have hE2 : E = V := by rw [hE']; simp [he, h64, hV]
                subst hE2
                have hVI : ((E : Int) == 0) = false := by simp; omega
                clear hz hE' gd HA
                go_enter Tryz.func64, Tryz.ntmps64
                go_wp2_with fail
                refine (cU.out _).mono ?_; rintro r w2 ⟨rfl, h2⟩
                obtain ⟨p0, p1, p2, p3, p4, p5, p6⟩ := HD.out.below h2
                simp only at p0 p1 p2 p3 p4 p5 p6
                clear d0 d1 d2 d3 d4 d5 d6
                go_wp2_with fail
                refine (cV.out _).mono ?_; rintro r w3 ⟨rfl, h3⟩
                have b3 := fin _ (h2.trans (h3.mono h2.size))
                go_wp2
                go_ret
                exact ⟨rfl, b3⟩
      · have hc : (c == 0) = false := by simpa using c0
        have hE2 : E = 9 := by rw [hE']; simp [c0]
        subst hE2
        clear hz cV cU HA hE' HD fin c0 gd
        go_enter Tryz.func64, Tryz.ntmps64
        go_wp2
        go_ret
        exact ⟨rfl, b0⟩
    · have hk2 : (k != 2) = true := by simpa using k2
      have hE2 : E = 5 := by rw [hE']; simp [k1, k2]
      subst hE2
      clear hz cV cU HA hE' HD fin gd k1 k2
      go_enter Tryz.func64, Tryz.ntmps64
      go_wp2
      go_ret
      exact ⟨rfl, b0⟩
end Go.Proofs.YtgimcloadjjefabGreatDoor

/- What vellumref04.Length answers of inserts. -/
namespace Go.Proofs.YtgimcloadjjefabGreatDoor
open Go Go.RowKit Go.Lib
set_option linter.unusedVariables false

set_option maxHeartbeats 1000000 in
theorem refLen4_any (o : Op5) (s : Value) (w : World) (hO : Ins o) (ht : o.t.size ≤ 8388608) :
    Calls Tryz.prog 57 #[opV o s] w fun r w' => r = .returned (.int .i64 (lenO o)) ∧ Below w.heap.size w w' := by
  have b0 := (Below.refl w.heap.size w).alloc (Nat.le_refl _) (.cells (opC o s) 46)
  have c1 := fun W => ref_list o.t W (by omega)
  have hk := hO.kind
  unfold lenO
  obtain ⟨k, t, ⟨x, n, u⟩, c, A⟩ := o
  simp only at hk c1
  simp only [opC] at b0
  rcases hk with ⟨hk, hv⟩ | ⟨hk, hv⟩
  · clear hv
    subst hk
    rw [if_pos rfl]
    obtain ⟨n1, hn1⟩ : ∃ n, (scs t.data.toList).length = n := ⟨_, rfl⟩
    simp only [hn1] at c1 ⊢
    clear hn1
    go_enter Tryz.func57, Tryz.ntmps57
    go_wp2_with fail
    refine (c1 _).mono ?_; rintro r w2 ⟨v, rfl, _, ⟨g, cap, rfl⟩, hb2⟩
    have b2 := b0.trans (hb2.mono b0.size)
    go_wp2
    go_ret
    exact ⟨rfl, b2⟩
  · clear hv
    subst hk
    rw [if_neg (by show ¬ (2 : Int) = 1; decide)]
    go_enter Tryz.func57, Tryz.ntmps57
    go_wp2
    go_ret
    exact ⟨rfl, b0⟩
end Go.Proofs.YtgimcloadjjefabGreatDoor

/- The document's answers for ops: empty, Check, Length, apart. -/
namespace Go.Proofs.YtgimcloadjjefabGreatDoor
open Go Go.RowKit Go.Lib
set_option linter.unusedVariables false

/-- Are the fields empty that a kind doesn't have? -/
def emptyB (o : Op5) : Bool :=
  if o.k = 1 then o.c == 0 && decide (o.v = z0)
  else if o.k = 2 then o.c == 0
  else if o.k = 3 then o.t.toList.isEmpty && decide (o.v = z0)
  else if o.k = 4 then o.t.toList.isEmpty && decide (o.v = z0) && o.A.isEmpty
  else false
theorem opE_ref (o : Op5) : opE o = if emptyB o = false then 9 else if o.k = 1 ∨ o.k = 2 then insE o else if o.c < 1 then 9 else if 1099511627776 < o.c then 11 else if o.k = 3 then listE true none o.A else 0 := by
  unfold opE emptyB cntE
  by_cases k1 : o.k = 1
  · rw [if_pos (Or.inl k1), if_pos k1, if_pos (Or.inl k1)]
    by_cases hb : (o.c == 0 && decide (o.v = z0)) = false
    · rw [if_pos hb]
      have : fldE o = 9 := by
        unfold fldE
        rw [if_neg (fun h => h.1 k1), if_pos]
        by_cases hc : o.c = 0
        · by_cases hv : o.v = z0
          · simp [hc, hv] at hb
          · exact Or.inr ⟨k1, Or.inr hv⟩
        · exact Or.inl hc
      unfold insE
      rw [if_pos (by omega), this]
    · rw [if_neg hb]
  · by_cases k2 : o.k = 2
    · rw [if_pos (Or.inr k2), if_neg k1, if_pos k2, if_pos (Or.inr k2)]
      by_cases hb : (o.c == 0) = false
      · rw [if_pos hb]
        have : fldE o = 9 := by
          unfold fldE
          rw [if_neg (fun h => h.2 k2), if_pos]
          exact Or.inl (by simpa using hb)
        unfold insE
        rw [if_pos (by omega), this]
      · rw [if_neg hb]
    · have h12 : ¬ (o.k = 1 ∨ o.k = 2) := by omega
      rw [if_neg h12, if_neg k1, if_neg k2, if_neg h12]
      by_cases k3 : o.k = 3
      · rw [if_pos k3, if_pos k3, if_pos k3]
        cases ht : o.t.toList.isEmpty <;> by_cases hv : o.v = z0 <;> by_cases h1 : o.c < 1 <;> by_cases h2 : 1099511627776 < o.c <;> simp [hv, h1, h2]
      · rw [if_neg k3, if_neg k3, if_neg k3]
        by_cases k4 : o.k = 4
        · rw [if_pos k4, if_pos k4]
          cases ht : o.t.toList.isEmpty <;> by_cases hv : o.v = z0 <;> cases hA : o.A <;> by_cases h1 : o.c < 1 <;> by_cases h2 : 1099511627776 < o.c <;> simp [hv, h1, h2]
        · rw [if_neg k4, if_neg k4, if_pos rfl]

set_option maxHeartbeats 2000000 in
theorem refEmpty_any (o : Op5) (s : Value) (w : World) (hR : RowA w s o.A) :
    Calls Tryz.prog 63 #[opV o s] w fun r w' => r = .returned (.bool (emptyB o)) ∧ Below w.heap.size w w' := by
  have b0 := (Below.refl w.heap.size w).alloc (Nat.le_refl _) (.cells (opC o s) 46)
  obtain ⟨p, cc, rfl, _⟩ := hR.val
  clear hR
  obtain ⟨n9, hn9⟩ : ∃ m, o.A.length = m := ⟨_, rfl⟩
  have hAe : o.A.isEmpty = decide (n9 = 0) := by
    cases h : o.A with
    | nil => rw [h] at hn9; simp only [List.length_nil] at hn9; subst hn9; rfl
    | cons x r => rw [h] at hn9; simp only [List.length_cons] at hn9; rw [decide_eq_false (by omega)]; rfl
  have hnz : ((n9 : Int) == 0) = decide (n9 = 0) := by rw [Bool.eq_iff_iff]; simp
  rw [hn9] at b0 ⊢
  unfold emptyB
  rw [hAe]
  clear hAe hn9
  obtain ⟨k, t, ⟨x, n, u⟩, c, A⟩ := o
  simp only [opC] at b0 ⊢
  have gd := fun op x' y' w => guard_pl op x' y' (x, n, u) (0, 0, ⟨#[]⟩) w
  obtain ⟨bv, hbv⟩ : ∃ b, decide (((x, n, u) : P3) = z0) = b := ⟨_, rfl⟩
  have hne := eql_pl (x, n, u) (0, 0, ⟨#[]⟩) bv (by
    rw [← hbv]
    by_cases h : ((x, n, u) : P3) = z0
    · rw [decide_eq_true h, h]; exact samP_self _
    · rw [decide_eq_false h]; exact samP_ne h)
  rw [hbv]
  clear hbv
  by_cases k1 : k = 1
  · subst k1
    rw [if_pos rfl]
    clear hnz
    cases hc : (c == 0) with
    | false =>
      go_enter Tryz.func63, Tryz.ntmps63
      go_wp2
      go_ret
      exact ⟨rfl, b0⟩
    | true =>
      go_enter Tryz.func63, Tryz.ntmps63
      go_wp2
      go_ret
      exact ⟨rfl, b0⟩
  · have e1 : (k == 1) = false := by simpa using k1
    rw [if_neg k1]
    by_cases k2 : k = 2
    · subst k2
      rw [if_pos rfl]
      clear hnz hne gd
      go_enter Tryz.func63, Tryz.ntmps63
      go_wp2
      go_ret
      exact ⟨rfl, b0⟩
    · have e2 : (k == 2) = false := by simpa using k2
      rw [if_neg k2]
      by_cases k3 : k = 3
      · subst k3
        rw [if_pos rfl]
        clear hnz e1 e2
        cases ht : t.toList.isEmpty with
        | false =>
          go_enter Tryz.func63, Tryz.ntmps63
          go_wp2
          go_ret
          exact ⟨rfl, b0⟩
        | true =>
          go_enter Tryz.func63, Tryz.ntmps63
          go_wp2
          go_ret
          exact ⟨rfl, b0⟩
      · have e3 : (k == 3) = false := by simpa using k3
        rw [if_neg k3]
        by_cases k4 : k = 4
        · subst k4
          rw [if_pos rfl]
          clear e1 e2 e3
          cases ht : t.toList.isEmpty with
          | false =>
            go_enter Tryz.func63, Tryz.ntmps63
            go_wp2
            go_ret
            exact ⟨rfl, b0⟩
          | true =>
            cases bv with
            | false =>
              go_enter Tryz.func63, Tryz.ntmps63
              go_wp2
              go_ret
              exact ⟨rfl, b0⟩
            | true =>
              go_enter Tryz.func63, Tryz.ntmps63
              go_wp2
              go_ret
              exact ⟨rfl, b0⟩
        · have e4 : (k == 4) = false := by simpa using k4
          rw [if_neg k4]
          clear hnz hne gd
          go_enter Tryz.func63, Tryz.ntmps63
          go_wp2
          go_ret
          exact ⟨rfl, b0⟩

set_option maxHeartbeats 2000000 in
theorem refCheckO_any {I : List Nat} {a : Nat → Addr} (o : Op5) (s : Value) (w : World) (hS : Std I a w) (hR : RN w s o.A) (hF : Fit o) :
    Calls Tryz.prog 56 #[opV o s] w fun r w' => r = .returned (.int .i64 (opE o)) ∧ Below w.heap.size w w' := by
  have b0 := (Below.refl w.heap.size w).alloc (Nat.le_refl _) (.cells (opC o s) 46)
  have D0 := BoxO.new w o s
  have c1 := refEmpty_any o s _ (hR.row.below b0)
  have cI : Hid (∀ W, Below (w.alloc (.cells (opC o s) 46)).heap.size (w.alloc (.cells (opC o s) 46)) W → Calls Tryz.prog 64 #[opV o s] W fun r w' => r = .returned (.int .i64 (insE o)) ∧ Below W.heap.size W w') := fun W hW => ref_ins o s W ((hS.below b0).below hW) ((hR.below b0).below hW) hF
  have cA : Hid (∀ W, Below (w.alloc (.cells (opC o s) 46)).heap.size (w.alloc (.cells (opC o s) 46)) W → Calls Tryz.prog 65 #[s, .bool true] W fun r w' => r = .returned (.int .i64 (listE true none o.A)) ∧ Below W.heap.size W w') := fun W hW => ref_check s o.A true W ((hS.below b0).below hW) ((hR.row.below b0).below hW) hF.tiny (by have := hF.n; omega)
  have hE := opE_ref o
  obtain ⟨E, hEE⟩ : ∃ E, opE o = E := ⟨_, rfl⟩
  obtain ⟨i9, hi9⟩ : ∃ i, insE o = i := ⟨_, rfl⟩
  obtain ⟨l9, hl9⟩ : ∃ l, listE true none o.A = l := ⟨_, rfl⟩
  obtain ⟨eb, heb⟩ : ∃ l, emptyB o = l := ⟨_, rfl⟩
  rw [hEE, hi9, hl9, heb] at hE
  rw [hEE]
  rw [hi9] at cI
  rw [hl9] at cA
  rw [heb] at c1
  clear hS hR hF hEE hi9 hl9 heb
  have HD : Hid (BoxO (w.alloc (.cells (opC o s) 46)) w.heap.size o s) := D0
  obtain ⟨k, t, ⟨x, n, u⟩, c, A⟩ := o
  simp only [opC] at b0 c1 cI cA HD hE
  clear D0
  cases eb with
  | false =>
    rw [if_pos rfl] at hE
    subst hE
    clear cI cA HD
    go_enter Tryz.func56, Tryz.ntmps56
    go_wp2_with fail
    refine c1.mono ?_; rintro r w2 ⟨rfl, hb2⟩
    have b2 := b0.trans (hb2.mono b0.size)
    clear c1 b0 hb2
    go_wp2
    go_ret
    exact ⟨rfl, b2⟩
  | true =>
    rw [if_neg (by simp)] at hE
    by_cases k1 : k = 1
    · rw [if_pos (Or.inl k1)] at hE
      subst hE k1
      go_enter Tryz.func56, Tryz.ntmps56
      go_wp2_with fail
      refine c1.mono ?_; rintro r w2 ⟨rfl, hb2⟩
      have b2 := b0.trans (hb2.mono b0.size)
      obtain ⟨d0, d1, d2, d3, d4, d5, d6⟩ := HD.out.below hb2
      simp only at d0 d1 d2 d3 d4 d5 d6
      have c2 := cI.out _ hb2
      clear c1 b0 hb2
      go_wp2_with fail
      refine c2.mono ?_; rintro r w3 ⟨rfl, hb3⟩
      have b3 := b2.trans (hb3.mono b2.size)
      clear c2 b2 hb3
      go_wp2
      go_ret
      exact ⟨rfl, b3⟩
    · have e1 : (k == 1) = false := by simpa using k1
      by_cases k2 : k = 2
      · rw [if_pos (Or.inr k2)] at hE
        subst hE k2
        clear k1 e1
        go_enter Tryz.func56, Tryz.ntmps56
        go_wp2_with fail
        refine c1.mono ?_; rintro r w2 ⟨rfl, hb2⟩
        have b2 := b0.trans (hb2.mono b0.size)
        obtain ⟨d0, d1, d2, d3, d4, d5, d6⟩ := HD.out.below hb2
        simp only at d0 d1 d2 d3 d4 d5 d6
        have c2 := cI.out _ hb2
        clear c1 b0 hb2
        go_wp2_with fail
        refine c2.mono ?_; rintro r w3 ⟨rfl, hb3⟩
        have b3 := b2.trans (hb3.mono b2.size)
        clear c2 b2 hb3
        go_wp2
        go_ret
        exact ⟨rfl, b3⟩
      · have e2 : (k == 2) = false := by simpa using k2
        rw [if_neg (by omega)] at hE
        by_cases h1 : c < 1
        · rw [if_pos h1] at hE
          subst hE
          clear cI cA
          go_enter Tryz.func56, Tryz.ntmps56
          go_wp2_with fail
          refine c1.mono ?_; rintro r w2 ⟨rfl, hb2⟩
          have b2 := b0.trans (hb2.mono b0.size)
          obtain ⟨d0, d1, d2, d3, d4, d5, d6⟩ := HD.out.below hb2
          simp only at d0 d1 d2 d3 d4 d5 d6
          clear c1 b0 hb2
          go_wp2
          go_ret
          exact ⟨rfl, b2⟩
        · rw [if_neg h1] at hE
          by_cases h2 : 1099511627776 < c
          · rw [if_pos h2] at hE
            subst hE
            clear cI cA
            go_enter Tryz.func56, Tryz.ntmps56
            go_wp2_with fail
            refine c1.mono ?_; rintro r w2 ⟨rfl, hb2⟩
            have b2 := b0.trans (hb2.mono b0.size)
            obtain ⟨d0, d1, d2, d3, d4, d5, d6⟩ := HD.out.below hb2
            simp only at d0 d1 d2 d3 d4 d5 d6
            clear c1 b0 hb2
            go_wp2
            go_ret
            exact ⟨rfl, b2⟩
          · rw [if_neg h2] at hE
            by_cases k3 : k = 3
            · rw [if_pos k3] at hE
              subst hE k3
              clear cI k1 k2 e1 e2
              go_enter Tryz.func56, Tryz.ntmps56
              go_wp2_with fail
              refine c1.mono ?_; rintro r w2 ⟨rfl, hb2⟩
              have b2 := b0.trans (hb2.mono b0.size)
              obtain ⟨d0, d1, d2, d3, d4, d5, d6⟩ := HD.out.below hb2
              simp only at d0 d1 d2 d3 d4 d5 d6
              have c2 := cA.out _ hb2
              clear c1 b0 hb2
              go_wp2_with fail
              refine c2.mono ?_; rintro r w3 ⟨rfl, hb3⟩
              have b3 := b2.trans (hb3.mono b2.size)
              clear c2 b2 hb3
              go_wp2
              go_ret
              exact ⟨rfl, b3⟩
            · have e3 : (k == 3) = false := by simpa using k3
              rw [if_neg k3] at hE
              subst hE
              clear cI cA
              go_enter Tryz.func56, Tryz.ntmps56
              go_wp2_with fail
              refine c1.mono ?_; rintro r w2 ⟨rfl, hb2⟩
              have b2 := b0.trans (hb2.mono b0.size)
              obtain ⟨d0, d1, d2, d3, d4, d5, d6⟩ := HD.out.below hb2
              simp only at d0 d1 d2 d3 d4 d5 d6
              clear c1 b0 hb2
              go_wp2
              go_ret
              exact ⟨rfl, b2⟩
set_option maxHeartbeats 1000000 in
theorem refLenO_any (o : Op5) (s : Value) (w : World) (hg : opE o = 0) (hF : Fit o) :
    Calls Tryz.prog 48 #[opV o s] w fun r w' => r = .returned (.int .i64 (len5 o)) ∧ Below w.heap.size w w' := by
  have b0 := (Below.refl w.heap.size w).alloc (Nat.le_refl _) (.cells (opC o s) 46)
  have cI : o.k = 1 ∨ o.k = 2 → Calls Tryz.prog 57 #[opV o s] (w.alloc (.cells (opC o s) 46)) fun r w' => r = .returned (.int .i64 (lenO o)) ∧ Below (w.alloc (.cells (opC o s) 46)).heap.size (w.alloc (.cells (opC o s) 46)) w' := fun hk => by
    rcases op_good hg with ⟨hi, _⟩ | ⟨_, _, h3⟩ | ⟨_, _, h4⟩
    · exact refLen4_any o s _ hi hF.t
    · omega
    · omega
  unfold len5
  obtain ⟨L, hL⟩ : ∃ L : Int, (lenO o : Int) = L := ⟨_, rfl⟩
  rw [hL] at cI ⊢
  clear hg hF hL
  obtain ⟨k, t, ⟨x, n, u⟩, c, A⟩ := o
  simp only [opC] at b0 cI ⊢
  by_cases k1 : k = 1
  · rw [if_pos (Or.inl k1)]
    have c1 := cI (Or.inl k1)
    subst k1
    clear cI
    go_enter Tryz.func48, Tryz.ntmps48
    go_wp2_with fail
    refine c1.mono ?_; rintro r w2 ⟨rfl, hb2⟩
    have b2 := b0.trans (hb2.mono b0.size)
    clear c1 b0 hb2
    go_wp2
    go_ret
    exact ⟨rfl, b2⟩
  · have e1 : (k == 1) = false := by simpa using k1
    by_cases k2 : k = 2
    · rw [if_pos (Or.inr k2)]
      have c1 := cI (Or.inr k2)
      subst k2
      clear cI
      go_enter Tryz.func48, Tryz.ntmps48
      go_wp2_with fail
      refine c1.mono ?_; rintro r w2 ⟨rfl, hb2⟩
      have b2 := b0.trans (hb2.mono b0.size)
      clear c1 b0 hb2
      go_wp2
      go_ret
      exact ⟨rfl, b2⟩
    · have e2 : (k == 2) = false := by simpa using k2
      rw [if_neg (by omega)]
      clear cI
      go_enter Tryz.func48, Tryz.ntmps48
      go_wp2
      go_ret
      exact ⟨rfl, b0⟩
set_option maxHeartbeats 1000000 in
theorem refApart_any (o o' : Op5) (s s' : Value) (w : World) (hA : RowA w s o.A) (hB : RowA w s' o'.A) (hl : o.A.length ≤ 4194304) (hl2 : o'.A.length ≤ 4194304) :
    Calls Tryz.prog 37 #[opV o s, opV o' s'] w fun r w' => r = .returned (.bool (apartB o o')) ∧ Below w.heap.size w w' := by
  have b0 := ((Below.refl w.heap.size w).alloc (Nat.le_refl _) (.cells (opC o s) 46)).alloc (by simp) (.cells (opC o' s') 46)
  have cS := from_below b0 (sameAttrs_any s s' o.A o'.A _ (hA.below b0) (hB.below b0) (by omega) (by omega))
  obtain ⟨pa, ca, rfl, _⟩ := hA.val
  obtain ⟨pb, cb, rfl, _⟩ := hB.val
  unfold apartB
  obtain ⟨q, hq⟩ : ∃ q, decide (o.A = o'.A) = q := ⟨_, rfl⟩
  rw [hq] at cS ⊢
  obtain ⟨k, t, ⟨x, n, u⟩, c, A⟩ := o
  obtain ⟨k', t', ⟨x', n', u'⟩, c', A'⟩ := o'
  simp only [opC] at b0 cS hq ⊢
  clear hA hB hl hl2 hq
  by_cases k4 : k = 4
  · subst k4
    rw [if_pos rfl]
    clear cS
    go_enter Tryz.func37, Tryz.ntmps37
    go_wp2
    go_ret
    exact ⟨rfl, b0⟩
  · have e4 : (k == 4) = false := by simpa using k4
    rw [if_neg k4]
    by_cases hkk : k = k'
    · subst hkk
      by_cases k2 : k = 2
      · subst k2
        rw [if_pos (Or.inr rfl)]
        clear cS
        go_enter Tryz.func37, Tryz.ntmps37
        go_wp2
        go_ret
        exact ⟨rfl, b0⟩
      · have e2 : (k == 2) = false := by simpa using k2
        rw [if_neg (by simp [k2])]
        go_enter Tryz.func37, Tryz.ntmps37
        go_wp2_with fail
        refine cS.mono ?_; rintro r w2 ⟨rfl, hb2⟩
        go_wp2
        go_ret
        exact ⟨rfl, hb2⟩
    · have e5 : (k != k') = true := by simpa using hkk
      rw [if_pos (Or.inl hkk)]
      clear cS
      go_enter Tryz.func37, Tryz.ntmps37
      go_wp2
      go_ret
      exact ⟨rfl, b0⟩
end Go.Proofs.YtgimcloadjjefabGreatDoor

/- The document's answers for lists of operations: Bad, Lengths, Canonical. -/
namespace Go.Proofs.YtgimcloadjjefabGreatDoor
open Go Go.RowKit Go.Lib
set_option linter.unusedVariables false

set_option maxHeartbeats 2000000 in
set_option maxRecDepth 100000 in
theorem refBad_any {I : List Nat} {a : Nat → Addr} (v : Value) (E : List Op5) (w : World) (hS : Std I a w) (hv : ReO w v E) (hF : FitL E) (hl : E.length ≤ 1048576) :
    Calls Tryz.prog 47 #[v] w fun r w' => r = .returned (.tuple #[.int .i64 (badP E).1, .int .i64 (badP E).2]) ∧ Below w.heap.size w w' := by
  obtain ⟨D0, hrow, hre⟩ := hv
  have hDE := forall2_len hre
  obtain ⟨n, hn⟩ : ∃ n, D0.length = n := ⟨_, rfl⟩
  obtain ⟨p, cap, rfl, hcap, hnz, hc⟩ := hrow
  have HC : Hid (∀ (j : Nat) (d : OV), D0[j]? = some d → ∃ b off, p = some ⟨b, off, none⟩ ∧ OpAt w b (off + j * 7) d) := hc
  have HN : Hid (D0.length = n ∧ E.length = n) := ⟨hn, by rw [← hDE, hn]⟩
  have hl : n ≤ 1048576 := by rw [← hn, hDE]; exact hl
  have HK : Hid (∀ (k : Nat) d, D0[k]? = some d → ∃ e, E[k]? = some e ∧ ∀ W, Below w.heap.size w W → Calls Tryz.prog 56 #[ovV d] W fun r w' => r = .returned (.int .i64 (opE e)) ∧ Below W.heap.size W w') := fun k d h1 => by
    obtain ⟨y, hy, r1⟩ := forall2_get hre k d h1
    have fy := hF y (List.mem_of_getElem? hy)
    refine ⟨y, hy, fun W hW => ?_⟩
    rw [opV_of r1]
    exact refCheckO_any y _ W (hS.below hW) (r1.2.2.2.2.below hW) fy
  rw [hn] at hcap ⊢
  clear hc hn hDE hre hnz hF hS
  go_enter Tryz.func47, Tryz.ntmps47
  go_wp2
  go_loopw [4, 5] (fun i _ wr => ∃ (k : Nat), k ≤ n ∧ i = .int .i64 k ∧ Hid (∀ x ∈ E.take k, opE x = 0) ∧ Below w.heap.size w wr) (fun i _ _ => n - (RowKit.intOf i).toNat)
  case atStart => exact ⟨0, Nat.zero_le _, rfl, fun x hx => by simp at hx, Below.refl _ _⟩
  case round =>
    obtain ⟨k, hk, rfl, HG, hbw⟩ := hrel
    by_cases hlt : k < n
    · have hltI : (k : Int) < n := by omega
      obtain ⟨d, hd⟩ : ∃ d, D0[k]? = some d := ⟨_, List.getElem?_eq_getElem (by rw [HN.out.1]; exact hlt)⟩
      obtain ⟨e, he, cc⟩ := HK.out k d hd
      obtain ⟨b, off, rfl, hp⟩ := HC.out k d hd
      obtain ⟨c0, c1, c2, c3, c4, c5, c6⟩ := hp.below hbw
      have c9 := cc _ hbw
      have HT : Hid (E.take (k + 1) = E.take k ++ [e] ∧ E[k]? = some e) := by refine ⟨?_, he⟩; rw [List.take_add_one, he]; rfl
      clear hp hd he cc
      obtain ⟨dk, dt, ⟨dx, dn, du⟩, dc, ds⟩ := d
      obtain ⟨dp, dl, dcap⟩ := ds
      simp only [slV] at c0 c1 c2 c3 c4 c5 c6
      simp only [ovV, ovC, slV] at c9
      cases hg : opE e with
      | zero =>
        rw [hg] at c9
        have hz : (((0 : Nat) : Int) != 0) = false := by decide
        have HG' : Hid (∀ x ∈ E.take (k + 1), opE x = 0) := fun x hx => by
          rw [HT.out.1, List.mem_append] at hx
          rcases hx with hx | hx
          · exact HG.out x hx
          · rw [List.mem_singleton.1 hx]; exact hg
        clear hg HG HT
        go_wp2_with fail
        refine c9.mono ?_; rintro r w5 ⟨rfl, hb5⟩
        have b5 := hbw.trans (hb5.mono hbw.size)
        clear c9 hb5 c0 c1 c2 c3 c4 c5 c6
        go_wp2
        go_roundw
        case rel => exact ⟨k + 1, by omega, by go_num, HG', b5⟩
        case measure => simp [RowKit.intOf]; omega
      | succ x =>
        have HB : Hid (badP E = (k, x + 1)) := by
          have := bad_at HT.out.2 HG.out (by omega)
          rw [hg] at this; exact this
        rw [hg] at c9
        obtain ⟨z, hz⟩ : ∃ z : Int, ((x + 1 : Nat) : Int) = z := ⟨_, rfl⟩
        have hz0 : (z != 0) = true := by rw [← hz, bne_iff_ne]; omega
        rw [hz] at c9
        have HZ : Hid (((x + 1 : Nat) : Int) = z) := hz
        clear hg HG HT hz
        go_wp2_with fail
        refine c9.mono ?_; rintro r w5 ⟨rfl, hb5⟩
        have b5 := hbw.trans (hb5.mono hbw.size)
        clear c9 hb5 c0 c1 c2 c3 c4 c5 c6
        go_wp2
        go_ret2
        exact ⟨by rw [HB.out]; simp only []; rw [HZ.out]; rfl, b5⟩
    · have hltI : ¬ (k : Int) < n := by omega
      have HB : Hid (badP E = (0, 0)) := bad_none (by have := HG.out; rwa [List.take_of_length_le (by rw [HN.out.2]; omega)] at this)
      go_wp2
      go_ret2
      exact ⟨by rw [HB.out]; rfl, hbw⟩

set_option maxHeartbeats 4000000 in
set_option maxRecDepth 100000 in
theorem refLens_any {I : List Nat} {a : Nat → Addr} (v : Value) (E : List Op5) (w : World) (hS : Std I a w) (hv : ReO w v E) (hF : FitL E) (hl : E.length ≤ 1048576) :
    Calls Tryz.prog 36 #[v] w fun r w' => r = .returned (.tuple #[.int .i64 (lensL E).1, .int .i64 (lensL E).2.1, .int .i64 (lensL E).2.2]) ∧ Below w.heap.size w w' := by
  have c1 := refBad_any v E w hS hv hF hl
  obtain ⟨D0, hrow, hre⟩ := hv
  have hDE := forall2_len hre
  obtain ⟨n, hn⟩ : ∃ n, D0.length = n := ⟨_, rfl⟩
  obtain ⟨p, cap, rfl, hcap, hnz, hc⟩ := hrow
  rw [hn] at hcap c1 ⊢
  unfold lensL
  cases hb : (badP E).2 with
  | succ x =>
    rw [if_pos (by omega)]
    obtain ⟨z, hz⟩ : ∃ z : Int, ((x + 1 : Nat) : Int) = z := ⟨_, rfl⟩
    have hz0 : (z != 0) = true := by rw [← hz, bne_iff_ne]; omega
    obtain ⟨i1, hi1⟩ : ∃ i : Int, ((badP E).1 : Int) = i := ⟨_, rfl⟩
    simp only []
    rw [hb, hz, hi1] at c1
    rw [hz]
    clear hc hn hDE hre hnz hF hS hb hz hi1 hl
    go_enter Tryz.func36, Tryz.ntmps36
    go_wp2_with fail
    refine c1.mono ?_; rintro r w2 ⟨rfl, hb2⟩
    clear c1
    go_wp2
    go_ret3
    exact ⟨rfl, hb2⟩
  | zero =>
    rw [if_neg (by simp)]
    have hg : ∀ o ∈ E, opE o = 0 := bad_zero.1 hb
    have HC : Hid (∀ (j : Nat) (d : OV), D0[j]? = some d → ∃ b off, p = some ⟨b, off, none⟩ ∧ OpAt w b (off + j * 7) d) := hc
    have HN : Hid (D0.length = n ∧ E.length = n) := ⟨hn, by rw [← hDE, hn]⟩
    have hl : n ≤ 1048576 := by rw [← hn, hDE]; exact hl
    have HK : Hid (∀ (k : Nat) d, D0[k]? = some d → ∃ e, E[k]? = some e ∧ d.1 = e.k ∧ opE e = 0 ∧ Fit e ∧ ∀ W, Below w.heap.size w W → Calls Tryz.prog 48 #[ovV d] W fun r w' => r = .returned (.int .i64 (len5 e)) ∧ Below W.heap.size W w') := fun k d h1 => by
      obtain ⟨y, hy, r1⟩ := forall2_get hre k d h1
      have fy := hF y (List.mem_of_getElem? hy)
      have gy := hg y (List.mem_of_getElem? hy)
      refine ⟨y, hy, r1.1, gy, fy, fun W hW => ?_⟩
      rw [opV_of r1]
      exact refLenO_any y _ W gy fy
    obtain ⟨b9, r9, e9, h9⟩ : ∃ b r e, sumL 0 0 E = (b, r, e) := ⟨_, _, _, rfl⟩
    rw [h9]
    have H9 : Hid (sumL 0 0 (E.drop 0) = (b9, r9, e9)) := by show _ = _; rw [List.drop_zero]; exact h9
    obtain ⟨i1, hi1⟩ : ∃ i : Int, ((badP E).1 : Int) = i := ⟨_, rfl⟩
    rw [hb, hi1] at c1
    have hz0 : (((0 : Nat) : Int) != 0) = false := by decide
    clear hc hn hDE hre hnz hF hS hb hi1 hg h9
    go_enter Tryz.func36, Tryz.ntmps36
    go_wp2_with fail
    refine c1.mono ?_; rintro r w2 ⟨rfl, hb2⟩
    clear c1
    go_wp2
    go_loopw [7, 8, 9, 10] (fun bs rs i _ wr => ∃ (k : Nat) (b r : Int), k ≤ n ∧ i = .int .i64 k ∧ bs = .int .i64 b ∧ rs = .int .i64 r ∧ 0 ≤ b ∧ b ≤ 1099511627776 ∧ 0 ≤ r ∧ r ≤ 1099511627776 ∧ Hid (sumL b r (E.drop k) = (b9, r9, e9)) ∧ Below w.heap.size w wr) (fun _ _ i _ _ => n - (RowKit.intOf i).toNat)
    case atStart => exact ⟨0, 0, 0, Nat.zero_le _, rfl, rfl, rfl, by omega, by omega, by omega, by omega, H9, hb2⟩
    case round =>
      clear H9 hb2
      obtain ⟨k, b, r, hk, rfl, rfl, rfl, h1, h2, h3, h4, HS, hbw⟩ := hrel
      by_cases hlt : k < n
      · have hltI : (k : Int) < n := by omega
        obtain ⟨d, hd⟩ : ∃ d, D0[k]? = some d := ⟨_, List.getElem?_eq_getElem (by rw [HN.out.1]; exact hlt)⟩
        obtain ⟨e, he, hdk, hge, hfe, cc⟩ := HK.out k d hd
        obtain ⟨b0, off, rfl, hp⟩ := HC.out k d hd
        have hpw := hp.below hbw
        obtain ⟨c0, c1, c2, c3, c4, c5, c6⟩ := hpw
        have c9 := cc _ hbw
        have HP : Hid (OpAt w b0 (off + k * 7) d) := hp
        have hL := len5_range hge hfe
        have hkk := kinds_of hge
        have hdr : E.drop k = e :: E.drop (k + 1) := by
          have hlt' : k < E.length := (List.getElem?_eq_some_iff.1 he).1
          rw [List.drop_eq_getElem_cons hlt']
          congr 1
          rw [List.getElem?_eq_getElem hlt'] at he
          exact Option.some.inj he
        have HS' := HS.out
        rw [hdr, sumL] at HS'
        unfold baseO resO at HS'
        obtain ⟨L, hLL⟩ : ∃ L, len5 e = L := ⟨_, rfl⟩
        rw [hLL] at c9 hL HS'
        obtain ⟨hL1, hL2⟩ := hL
        obtain ⟨dk, dt, ⟨dx, dn, du⟩, dc, ds⟩ := d
        obtain ⟨dp, dl, dcap⟩ := ds
        simp only at hdk
        rw [← hdk] at HS' hkk
        simp only [slV] at c0 c1 c2 c3 c4 c5 c6
        simp only [ovV, ovC, slV] at c9
        clear hp hd he cc hge hfe hdr hLL hdk HS
        rcases hkk with rfl | rfl | rfl | rfl
        all_goals first
          | rw [if_neg (show ¬ ((1 : Int) = 3 ∨ (1 : Int) = 4) by omega), if_neg (show ¬ ((1 : Int) = 4) by omega)] at HS'
          | rw [if_neg (show ¬ ((2 : Int) = 3 ∨ (2 : Int) = 4) by omega), if_neg (show ¬ ((2 : Int) = 4) by omega)] at HS'
          | rw [if_pos (show ((3 : Int) = 3 ∨ (3 : Int) = 4) by omega), if_neg (show ¬ ((3 : Int) = 4) by omega)] at HS'
          | rw [if_pos (show ((4 : Int) = 3 ∨ (4 : Int) = 4) by omega), if_pos (show ((4 : Int) = 4) by omega)] at HS'
        all_goals try rw [Int.add_zero] at HS'
        · -- a text
          have d1 : decide (1099511627776 < b) = false := decide_eq_false (by omega)
          by_cases hov : 1099511627776 < r + L
          · have d2 : decide (1099511627776 < r + L) = true := decide_eq_true hov
            rw [if_pos (Or.inr hov)] at HS'
            simp only [Prod.mk.injEq] at HS'
            obtain ⟨rfl, rfl, rfl⟩ := HS'
            go_wp2_with fail
            refine c9.mono ?_; rintro r1 w5 ⟨rfl, hb5⟩
            have b5 := hbw.trans (hb5.mono hbw.size)
            have q0 := (HP.out.below b5).c0
            clear c9 hb5 c0 c1 c2 c3 c4 c5 c6
            go_wp2
            go_ret3
            exact ⟨rfl, b5⟩
          · have d2 : decide (1099511627776 < r + L) = false := decide_eq_false hov
            rw [if_neg (by omega)] at HS'
            have HS2 : Hid _ := HS'
            clear HS'
            go_wp2_with fail
            refine c9.mono ?_; rintro r1 w5 ⟨rfl, hb5⟩
            have b5 := hbw.trans (hb5.mono hbw.size)
            have q0 := (HP.out.below b5).c0
            clear c9 hb5 c0 c1 c2 c3 c4 c5 c6
            go_wp2
            go_roundw
            case rel => exact ⟨k + 1, b, r + L, by omega, by go_num, rfl, rfl, by omega, by omega, by omega, by omega, HS2, b5⟩
            case measure => simp [RowKit.intOf]; omega
        · -- an embed
          have d1 : decide (1099511627776 < b) = false := decide_eq_false (by omega)
          by_cases hov : 1099511627776 < r + L
          · have d2 : decide (1099511627776 < r + L) = true := decide_eq_true hov
            rw [if_pos (Or.inr hov)] at HS'
            simp only [Prod.mk.injEq] at HS'
            obtain ⟨rfl, rfl, rfl⟩ := HS'
            go_wp2_with fail
            refine c9.mono ?_; rintro r1 w5 ⟨rfl, hb5⟩
            have b5 := hbw.trans (hb5.mono hbw.size)
            have q0 := (HP.out.below b5).c0
            clear c9 hb5 c0 c1 c2 c3 c4 c5 c6
            go_wp2
            go_ret3
            exact ⟨rfl, b5⟩
          · have d2 : decide (1099511627776 < r + L) = false := decide_eq_false hov
            rw [if_neg (by omega)] at HS'
            have HS2 : Hid _ := HS'
            clear HS'
            go_wp2_with fail
            refine c9.mono ?_; rintro r1 w5 ⟨rfl, hb5⟩
            have b5 := hbw.trans (hb5.mono hbw.size)
            have q0 := (HP.out.below b5).c0
            clear c9 hb5 c0 c1 c2 c3 c4 c5 c6
            go_wp2
            go_roundw
            case rel => exact ⟨k + 1, b, r + L, by omega, by go_num, rfl, rfl, by omega, by omega, by omega, by omega, HS2, b5⟩
            case measure => simp [RowKit.intOf]; omega
        · -- a retain
          by_cases hov1 : 1099511627776 < b + L
          · have d1 : decide (1099511627776 < b + L) = true := decide_eq_true hov1
            rw [if_pos (Or.inl hov1)] at HS'
            simp only [Prod.mk.injEq] at HS'
            obtain ⟨rfl, rfl, rfl⟩ := HS'
            go_wp2_with fail
            refine c9.mono ?_; rintro r1 w5 ⟨rfl, hb5⟩
            have b5 := hbw.trans (hb5.mono hbw.size)
            have q0 := (HP.out.below b5).c0
            clear c9 hb5 c0 c1 c2 c3 c4 c5 c6
            go_wp2
            go_ret3
            exact ⟨rfl, b5⟩
          · have d1 : decide (1099511627776 < b + L) = false := decide_eq_false hov1
            by_cases hov : 1099511627776 < r + L
            · have d2 : decide (1099511627776 < r + L) = true := decide_eq_true hov
              rw [if_pos (Or.inr hov)] at HS'
              simp only [Prod.mk.injEq] at HS'
              obtain ⟨rfl, rfl, rfl⟩ := HS'
              go_wp2_with fail
              refine c9.mono ?_; rintro r1 w5 ⟨rfl, hb5⟩
              have b5 := hbw.trans (hb5.mono hbw.size)
              have q0 := (HP.out.below b5).c0
              clear c9 hb5 c0 c1 c2 c3 c4 c5 c6
              go_wp2
              go_ret3
              exact ⟨rfl, b5⟩
            · have d2 : decide (1099511627776 < r + L) = false := decide_eq_false hov
              rw [if_neg (by omega)] at HS'
              have HS2 : Hid _ := HS'
              clear HS'
              go_wp2_with fail
              refine c9.mono ?_; rintro r1 w5 ⟨rfl, hb5⟩
              have b5 := hbw.trans (hb5.mono hbw.size)
              have q0 := (HP.out.below b5).c0
              clear c9 hb5 c0 c1 c2 c3 c4 c5 c6
              go_wp2
              go_roundw
              case rel => exact ⟨k + 1, b + L, r + L, by omega, by go_num, rfl, rfl, by omega, by omega, by omega, by omega, HS2, b5⟩
              case measure => simp [RowKit.intOf]; omega
        · -- a delete
          have d2 : decide (1099511627776 < r) = false := decide_eq_false (by omega)
          by_cases hov : 1099511627776 < b + L
          · have d1 : decide (1099511627776 < b + L) = true := decide_eq_true hov
            rw [if_pos (Or.inl hov)] at HS'
            simp only [Prod.mk.injEq] at HS'
            obtain ⟨rfl, rfl, rfl⟩ := HS'
            go_wp2_with fail
            refine c9.mono ?_; rintro r1 w5 ⟨rfl, hb5⟩
            have b5 := hbw.trans (hb5.mono hbw.size)
            have q0 := (HP.out.below b5).c0
            clear c9 hb5 c0 c1 c2 c3 c4 c5 c6
            go_wp2
            go_ret3
            exact ⟨rfl, b5⟩
          · have d1 : decide (1099511627776 < b + L) = false := decide_eq_false hov
            rw [if_neg (by omega)] at HS'
            have HS2 : Hid _ := HS'
            clear HS'
            go_wp2_with fail
            refine c9.mono ?_; rintro r1 w5 ⟨rfl, hb5⟩
            have b5 := hbw.trans (hb5.mono hbw.size)
            have q0 := (HP.out.below b5).c0
            clear c9 hb5 c0 c1 c2 c3 c4 c5 c6
            go_wp2
            go_roundw
            case rel => exact ⟨k + 1, b + L, r, by omega, by go_num, rfl, rfl, by omega, by omega, by omega, by omega, HS2, b5⟩
            case measure => simp [RowKit.intOf]; omega
      · have hltI : ¬ (k : Int) < n := by omega
        have HS' := HS.out
        rw [List.drop_eq_nil_of_le (by rw [HN.out.2]; omega), sumL] at HS'
        simp only [Prod.mk.injEq] at HS'
        obtain ⟨rfl, rfl, rfl⟩ := HS'
        clear HS
        go_wp2
        go_ret3
        exact ⟨rfl, hbw⟩
end Go.Proofs.YtgimcloadjjefabGreatDoor

/- The document's Canonical. -/
namespace Go.Proofs.YtgimcloadjjefabGreatDoor
open Go Go.RowKit Go.Lib
set_option linter.unusedVariables false

set_option maxHeartbeats 4000000 in
set_option maxRecDepth 100000 in
theorem refCanon_any {I : List Nat} {a : Nat → Addr} (v : Value) (E : List Op5) (w : World) (hS : Std I a w) (hv : ReO w v E) (hF : FitL E) (hl : E.length ≤ 1048576) :
    Calls Tryz.prog 21 #[v] w fun r w' => r = .returned (.bool (canonB E)) ∧ Below w.heap.size w w' := by
  have c1 := refLens_any v E w hS hv hF hl
  obtain ⟨D0, hrow, hre⟩ := hv
  have hDE := forall2_len hre
  obtain ⟨n, hn⟩ : ∃ n, D0.length = n := ⟨_, rfl⟩
  obtain ⟨p, cap, rfl, hcap, hnz, hc⟩ := hrow
  rw [hn] at hcap c1 ⊢
  obtain ⟨x9, hx9⟩ : ∃ x, lensL E = x := ⟨_, rfl⟩
  rw [hx9] at c1
  obtain ⟨b9, r9, e9⟩ := x9
  simp only at c1
  have HC : Hid (∀ (j : Nat) (d : OV), D0[j]? = some d → ∃ b off, p = some ⟨b, off, none⟩ ∧ OpAt w b (off + j * 7) d) := hc
  have HN : Hid (D0.length = n ∧ E.length = n) := ⟨hn, by rw [← hDE, hn]⟩
  have hl : n ≤ 1048576 := by rw [← hn, hDE]; exact hl
  have HK : Hid (∀ (k : Nat) d d', D0[k]? = some d → D0[k + 1]? = some d' → ∃ e e', E[k]? = some e ∧ E[k + 1]? = some e' ∧ ∀ W, Below w.heap.size w W → Calls Tryz.prog 37 #[ovV d, ovV d'] W fun r w' => r = .returned (.bool (apartB e e')) ∧ Below W.heap.size W w') := fun k d d' h1 h2 => by
    obtain ⟨y, hy, r1⟩ := forall2_get hre k d h1
    obtain ⟨y', hy', r2⟩ := forall2_get hre (k + 1) d' h2
    refine ⟨y, y', hy, hy', fun W hW => ?_⟩
    rw [opV_of r1, opV_of r2]
    have h3 := (hF y (List.mem_of_getElem? hy)).n
    have h4 := (hF y' (List.mem_of_getElem? hy')).n
    exact refApart_any y y' _ _ W (r1.2.2.2.2.below hW).row (r2.2.2.2.2.below hW).row (by omega) (by omega)
  have HZ : Hid (∀ (k : Nat) d, D0[k]? = some d → ∃ e, E[k]? = some e ∧ d.1 = e.k ∧ d.2.2.2.2.2.1 = e.A.length) := fun k d h1 => by
    obtain ⟨y, hy, r1⟩ := forall2_get hre k d h1
    obtain ⟨pp, cc, hvv, _⟩ := r1.2.2.2.2.row.val
    simp only [slV, Value.slice.injEq] at hvv
    exact ⟨y, hy, r1.1, hvv.2.1⟩
  have HX : Hid ((lensL E).2.2 = e9) := by show _ = _; rw [hx9]
  clear hc hn hDE hre hnz hF hS hx9
  cases e9 with
  | succ x =>
    have hcan : Hid (canonB E = false) := by
      show canonB E = false
      unfold canonB
      rw [decide_eq_false (fun h => by have := HX.out; omega)]; rfl
    obtain ⟨z, hz⟩ : ∃ z : Int, ((x + 1 : Nat) : Int) = z := ⟨_, rfl⟩
    have hz0 : (z != 0) = true := by rw [← hz, bne_iff_ne]; omega
    rw [hz] at c1
    clear HC HN HK HZ HX hz
    go_enter Tryz.func21, Tryz.ntmps21
    go_wp2_with fail
    refine c1.mono ?_; rintro r w2 ⟨rfl, hb2⟩
    clear c1
    go_wp2
    go_ret
    exact ⟨by rw [hcan.out]; rfl, hb2⟩
  | zero =>
    have hz0 : (((0 : Nat) : Int) != 0) = false := by decide
    go_enter Tryz.func21, Tryz.ntmps21
    go_wp2_with fail
    refine c1.mono ?_; rintro r w2 ⟨rfl, hb2⟩
    clear c1
    go_wp2
    go_loopw [6] (fun i wr => ∃ (k : Nat), (k ≤ n ∨ k = 1) ∧ 1 ≤ k ∧ i = .int .i64 k ∧ Hid (∀ j x y, j + 1 < k → E[j]? = some x → E[j + 1]? = some y → apartB x y = true) ∧ Below w.heap.size w wr) (fun i _ => n + 1 - (RowKit.intOf i).toNat)
    case atStart => exact ⟨1, Or.inr rfl, Nat.le_refl _, rfl, fun j x y h => by omega, hb2⟩
    case round =>
      clear hb2
      obtain ⟨k, hm, h1k, rfl, HCh, hbw⟩ := hrel
      by_cases hlt : k < n
      · have hltI : (k : Int) < n := by omega
        obtain ⟨m, hmk⟩ : ∃ m, k = m + 1 := ⟨k - 1, by omega⟩
        have HM : Hid (k = m + 1) := hmk
        obtain ⟨d, hd⟩ : ∃ q, D0[m]? = some q := ⟨_, List.getElem?_eq_getElem (by rw [HN.out.1]; omega)⟩
        obtain ⟨d', hd'⟩ : ∃ q, D0[k]? = some q := ⟨_, List.getElem?_eq_getElem (by rw [HN.out.1]; omega)⟩
        obtain ⟨e, e', he, he', cc⟩ := HK.out m d d' hd (by rw [← hmk]; exact hd')
        obtain ⟨b, off, rfl, hin⟩ := HC.out m d hd
        obtain ⟨b', off', hbo, hin'⟩ := HC.out k d' hd'
        simp only [Option.some.injEq, Addr.mk.injEq, and_true] at hbo
        obtain ⟨rfl, rfl⟩ := hbo
        obtain ⟨c0, c1, c2, c3, c4, c5, c6⟩ := hin.below hbw
        obtain ⟨d0, d1, d2, d3, d4, d5, d6⟩ := hin'.below hbw
        have HEE : Hid (E[m]? = some e ∧ E[m + 1]? = some e') := ⟨he, he'⟩
        clear hin hin' hd hd' he he'
        obtain ⟨f, t, ⟨x, z, u⟩, cc1, p, j, c⟩ := d
        obtain ⟨f', t', ⟨x', z', u'⟩, cc1', p', j', c'⟩ := d'
        simp only [slV] at c0 c1 c2 c3 c4 c5 c6 d0 d1 d2 d3 d4 d5 d6
        simp only [ovV, ovC, slV] at cc
        have HU : Hid (∀ w', Below wr.drew.heap.size wr.drew w' → (w'.cell? ⟨b, off + m * 7, none⟩ = some (.int .i64 f) ∧ w'.cell? ⟨b, off + m * 7 + 1, none⟩ = some (.string t) ∧ w'.cell? ⟨b, off + m * 7 + 2, none⟩ = some (.int .i64 x) ∧ w'.cell? ⟨b, off + m * 7 + 3, none⟩ = some (.int .i64 z) ∧ w'.cell? ⟨b, off + m * 7 + 4, none⟩ = some (.string u) ∧ w'.cell? ⟨b, off + m * 7 + 5, none⟩ = some (.int .i64 cc1) ∧ w'.cell? ⟨b, off + m * 7 + 6, none⟩ = some (.slice p j c) ∧ w'.cell? ⟨b, off + k * 7, none⟩ = some (.int .i64 f') ∧ w'.cell? ⟨b, off + k * 7 + 1, none⟩ = some (.string t') ∧ w'.cell? ⟨b, off + k * 7 + 2, none⟩ = some (.int .i64 x') ∧ w'.cell? ⟨b, off + k * 7 + 3, none⟩ = some (.int .i64 z') ∧ w'.cell? ⟨b, off + k * 7 + 4, none⟩ = some (.string u') ∧ w'.cell? ⟨b, off + k * 7 + 5, none⟩ = some (.int .i64 cc1') ∧ w'.cell? ⟨b, off + k * 7 + 6, none⟩ = some (.slice p' j' c'))) := fun w' hb => ⟨(hb.cell (lt_of_cell (w := wr.drew) c0)).trans c0, (hb.cell (lt_of_cell (w := wr.drew) c1)).trans c1, (hb.cell (lt_of_cell (w := wr.drew) c2)).trans c2, (hb.cell (lt_of_cell (w := wr.drew) c3)).trans c3, (hb.cell (lt_of_cell (w := wr.drew) c4)).trans c4, (hb.cell (lt_of_cell (w := wr.drew) c5)).trans c5, (hb.cell (lt_of_cell (w := wr.drew) c6)).trans c6, (hb.cell (lt_of_cell (w := wr.drew) d0)).trans d0, (hb.cell (lt_of_cell (w := wr.drew) d1)).trans d1, (hb.cell (lt_of_cell (w := wr.drew) d2)).trans d2, (hb.cell (lt_of_cell (w := wr.drew) d3)).trans d3, (hb.cell (lt_of_cell (w := wr.drew) d4)).trans d4, (hb.cell (lt_of_cell (w := wr.drew) d5)).trans d5, (hb.cell (lt_of_cell (w := wr.drew) d6)).trans d6⟩
        have hz0 : w.heap.size ≤ wr.drew.heap.size := hbw.size
        obtain ⟨q, hq⟩ : ∃ q, apartB e e' = q := ⟨_, rfl⟩
        rw [hq] at cc
        have HQ : Hid (apartB e e' = q) := hq
        have hk0 : (0 : Int) ≤ (k : Int) - 1 := by omega
        have hk1 : (k : Int) - 1 < (n : Int) := by omega
        have hk2 : ((k : Int) - 1).toNat = m := by omega
        have hk3 : IntKind.i64.wrap ((k : Int) - 1) = (k : Int) - 1 := by rw [IntKind.wrap_i64]; omega
        have hk4 : k ≤ 1048576 := by omega
        have hk5 : (1 : Int) ≤ (k : Int) := by omega
        have hk6 : k - 1 = m := by omega
        have hk7 : (0 : Int) ≤ (k : Int) := by omega
        clear hq hm hmk
        cases q with
        | true =>
          have HCh2 : Hid (∀ j x y, j + 1 < k + 1 → E[j]? = some x → E[j + 1]? = some y → apartB x y = true) := fun j x y hj hx hy => by
            by_cases hjm : j = m
            · subst hjm
              obtain rfl := Option.some.inj (hx.symm.trans HEE.out.1)
              obtain rfl := Option.some.inj (hy.symm.trans HEE.out.2)
              exact HQ.out
            · exact HCh.out j x y (by have := HM.out; omega) hx hy
          go_wp2_with fail
          go_region_held3 (fun w' => (w'.cell? ⟨b, off + m * 7, none⟩ = some (.int .i64 f) ∧ w'.cell? ⟨b, off + m * 7 + 1, none⟩ = some (.string t) ∧ w'.cell? ⟨b, off + m * 7 + 2, none⟩ = some (.int .i64 x) ∧ w'.cell? ⟨b, off + m * 7 + 3, none⟩ = some (.int .i64 z) ∧ w'.cell? ⟨b, off + m * 7 + 4, none⟩ = some (.string u) ∧ w'.cell? ⟨b, off + m * 7 + 5, none⟩ = some (.int .i64 cc1) ∧ w'.cell? ⟨b, off + m * 7 + 6, none⟩ = some (.slice p j c) ∧ w'.cell? ⟨b, off + k * 7, none⟩ = some (.int .i64 f') ∧ w'.cell? ⟨b, off + k * 7 + 1, none⟩ = some (.string t') ∧ w'.cell? ⟨b, off + k * 7 + 2, none⟩ = some (.int .i64 x') ∧ w'.cell? ⟨b, off + k * 7 + 3, none⟩ = some (.int .i64 z') ∧ w'.cell? ⟨b, off + k * 7 + 4, none⟩ = some (.string u') ∧ w'.cell? ⟨b, off + k * 7 + 5, none⟩ = some (.int .i64 cc1') ∧ w'.cell? ⟨b, off + k * 7 + 6, none⟩ = some (.slice p' j' c')) ∧ Below w.heap.size w w')
            (exact ⟨by first | (with_reducible assumption) | (simp [*]; done), by first | (with_reducible assumption) | exact hbw.drew⟩)
            (first | (go_at_call 37; refine (cc _ ?_).mono ?_; (· first | assumption | exact hbw.drew | (apply And.right; assumption)); rintro r w3 ⟨rfl, b3⟩; have b4 : Below w.heap.size w w3 := (hbw.drew).trans (b3.mono hz0); have mm := HU.out _ b3))
          clear cc mm b3
          go_wp2
          go_roundw
          case rel => exact ⟨k + 1, by omega, by omega, by go_num, HCh2, b4⟩
          case measure => simp [RowKit.intOf]; omega
        | false =>
          have hcan : Hid (canonB E = false) := by
            show canonB E = false
            cases h : chainB E with
            | true => have := chain_iff.1 h m e e' HEE.out.1 HEE.out.2; rw [HQ.out] at this; cases this
            | false => unfold canonB; rw [h]; simp
          go_wp2_with fail
          go_region_held3 (fun w' => (w'.cell? ⟨b, off + m * 7, none⟩ = some (.int .i64 f) ∧ w'.cell? ⟨b, off + m * 7 + 1, none⟩ = some (.string t) ∧ w'.cell? ⟨b, off + m * 7 + 2, none⟩ = some (.int .i64 x) ∧ w'.cell? ⟨b, off + m * 7 + 3, none⟩ = some (.int .i64 z) ∧ w'.cell? ⟨b, off + m * 7 + 4, none⟩ = some (.string u) ∧ w'.cell? ⟨b, off + m * 7 + 5, none⟩ = some (.int .i64 cc1) ∧ w'.cell? ⟨b, off + m * 7 + 6, none⟩ = some (.slice p j c) ∧ w'.cell? ⟨b, off + k * 7, none⟩ = some (.int .i64 f') ∧ w'.cell? ⟨b, off + k * 7 + 1, none⟩ = some (.string t') ∧ w'.cell? ⟨b, off + k * 7 + 2, none⟩ = some (.int .i64 x') ∧ w'.cell? ⟨b, off + k * 7 + 3, none⟩ = some (.int .i64 z') ∧ w'.cell? ⟨b, off + k * 7 + 4, none⟩ = some (.string u') ∧ w'.cell? ⟨b, off + k * 7 + 5, none⟩ = some (.int .i64 cc1') ∧ w'.cell? ⟨b, off + k * 7 + 6, none⟩ = some (.slice p' j' c')) ∧ Below w.heap.size w w')
            (exact ⟨by first | (with_reducible assumption) | (simp [*]; done), by first | (with_reducible assumption) | exact hbw.drew⟩)
            (first | (go_at_call 37; refine (cc _ ?_).mono ?_; (· first | assumption | exact hbw.drew | (apply And.right; assumption)); rintro r w3 ⟨rfl, b3⟩; have b4 : Below w.heap.size w w3 := (hbw.drew).trans (b3.mono hz0); have mm := HU.out _ b3))
          clear cc mm b3
          go_wp2
          go_ret
          exact ⟨by rw [hcan.out]; rfl, b4⟩
      · have hltI : ¬ (k : Int) < n := by omega
        have HC1 : Hid (chainB E = true) := chain_iff.2 fun j x y hx hy => HCh.out j x y (by
          have := (List.getElem?_eq_some_iff.1 hy).1; rw [HN.out.2] at this; omega) hx hy
        clear HCh
        cases n with
        | zero =>
          have hcan : Hid (canonB E = true) := by
            show canonB E = true
            have : E = [] := List.eq_nil_of_length_eq_zero HN.out.2
            unfold canonB
            rw [HC1.out, decide_eq_true HX.out, this]; rfl
          go_wp2
          go_ret
          exact ⟨by rw [hcan.out]; rfl, hbw⟩
        | succ l =>
          obtain ⟨d, hd⟩ : ∃ q, D0[l]? = some q := ⟨_, List.getElem?_eq_getElem (by rw [HN.out.1]; omega)⟩
          obtain ⟨e, he, hdk, hdl⟩ := HZ.out l d hd
          obtain ⟨b, off, rfl, hin⟩ := HC.out l d hd
          obtain ⟨c0, c1, c2, c3, c4, c5, c6⟩ := hin.below hbw
          have hcan : Hid (canonB E = !plainR e) := by
            show canonB E = _
            unfold canonB lastP
            rw [HC1.out, decide_eq_true HX.out, List.getLast?_eq_getElem?, HN.out.2]
            simp only [Nat.add_sub_cancel, he]
            rfl
          obtain ⟨f, t, ⟨x, z, u⟩, cc1, p, j, c⟩ := d
          simp only [slV] at c0 c1 c2 c3 c4 c5 c6
          simp only at hdk hdl
          have hpl : Hid (plainR e = (f == 3 && j == 0)) := by
            show plainR e = _
            unfold plainR
            rw [hdk, hdl]
            cases e.A <;> simp
          have hl0 : (((l : Int) + 1) == 0) = false := by simp; omega
          have hl1 : ((l : Int) + 1 - 1) = (l : Int) := by omega
          clear he hin hd hdk hdl hm hlt
          by_cases hf : f = 3
          · subst hf
            cases j with
            | zero =>
              go_wp2
              go_ret
              exact ⟨by rw [hcan.out, hpl.out]; rfl, hbw⟩
            | succ j =>
              have hj0 : decide ((0 : Int) < ((j + 1 : Nat) : Int)) = true := decide_eq_true (by omega)
              have hj2 : decide (0 < j + 1) = true := decide_eq_true (by omega)
              go_wp2
              go_ret
              exact ⟨by rw [hcan.out, hpl.out]; rfl, hbw⟩
          · have hf0 : (f != 3) = true := by simpa using hf
            have hf1 : (f == 3) = false := by simpa using hf
            clear hf
            go_wp2
            go_ret
            exact ⟨by rw [hcan.out, hpl.out, hf1]; rfl, hbw⟩
end Go.Proofs.YtgimcloadjjefabGreatDoor

/- What vellumref04.copied and vellumref04.Join answer. -/
namespace Go.Proofs.YtgimcloadjjefabGreatDoor
open Go Go.RowKit Go.Lib
set_option linter.unusedVariables false
end Go.Proofs.YtgimcloadjjefabGreatDoor

/- What vellumref04.Length, Cells and Newlines answer of inserts. -/
namespace Go.Proofs.YtgimcloadjjefabGreatDoor
open Go Go.RowKit Go.Lib
set_option linter.unusedVariables false

theorem ub10 (z : Int) (h : 128 ≤ z) (h1 : z < 256) : ¬ z.toNat.toUInt8 = 10 := fun e => by
  have := congrArg UInt8.toNat e
  rw [u8_nat z (by omega) h1] at this
  simp at this
  omega
theorem count_enc {r : Nat} (h : scal r) : (enc r).count 10 = if r = 10 then 1 else 0 := by
  have h' := h
  unfold scal at h'
  by_cases h1 : r < 128
  · rw [enc_one h1]
    by_cases h0 : r = 10
    · subst h0; rfl
    · rw [if_neg h0, List.count_eq_zero]
      intro hm
      have e := congrArg UInt8.toNat (List.mem_singleton.1 hm)
      rw [u8_nat _ (by omega) (by omega)] at e
      simp at e
      omega
  · rw [if_neg (by omega), List.count_eq_zero]
    intro hm
    by_cases h2 : r < 2048
    · rw [enc_two (by omega) h2] at hm
      simp only [List.mem_cons, List.not_mem_nil, or_false] at hm
      rcases hm with e | e <;> exact ub10 _ (by omega) (by omega) e.symm
    by_cases h3 : r < 65536
    · rw [enc_three (by omega) h3 h] at hm
      simp only [List.mem_cons, List.not_mem_nil, or_false] at hm
      rcases hm with e | e | e <;> exact ub10 _ (by omega) (by omega) e.symm
    · rw [enc_four (by omega) (by omega)] at hm
      simp only [List.mem_cons, List.not_mem_nil, or_false] at hm
      rcases hm with e | e | e | e <;> exact ub10 _ (by omega) (by omega) e.symm
theorem count_encs : ∀ (rs : List Nat), (∀ r ∈ rs, scal r) → (encs rs).count 10 = rs.countP (fun r => ((r : Nat) : Int) == 10)
  | [], _ => rfl
  | r :: rs, h => by
    rw [encs, List.count_append, count_enc (h r (by simp)), count_encs rs (fun x hx => h x (by simp [hx])), List.countP_cons]
    by_cases h0 : r = 10
    · subst h0; simp; omega
    · have : (((r : Nat) : Int) == 10) = false := by simp; omega
      rw [if_neg h0, this]
      simp
/-- How many cells of a list are newlines. -/
def newlC (L : List C5) : Nat := L.countP fun e => e.1 == 10
theorem newlC_of {o : Op5} (h : Ins o) : newlC (cellsOf o) = newlO o := by
  unfold newlC cellsOf newlO
  split
  · obtain ⟨h1, h2, _⟩ := valid_text o.t h.utf
    unfold mkC countByte
    rw [List.countP_map]
    conv => rhs; rw [h2]
    rw [count_encs _ h1]
    rfl
  · rfl
theorem newlC_le (L : List C5) : newlC L ≤ L.length := List.countP_le_length

/-- All blocks of numbers are as they were. -/
def Keep32 (w w' : World) : Prop := ∀ (k : Nat) (cur : Array Value), w.heap[k]? = some (.cells cur 21 (0, 0)) → w'.heap[k]? = w.heap[k]?
theorem keep32_below {w w' : World} (hb : Below w.heap.size w w') : Keep32 w w' := fun k cur hk => hb.block k (Array.getElem?_eq_some_iff.1 hk).1
theorem keep32_own {w w' : World} {B : Nat} {v : Value} {zs : List Int} (h : Own32 B w v zs) (hk : Keep32 w w') : Own32 B w' v zs := by
  obtain ⟨hl, h⟩ := h
  refine ⟨hl, ?_⟩
  rcases h with h | ⟨g, cap, cur, h1, h2, h3, h4⟩
  · exact Or.inl h
  · exact Or.inr ⟨g, cap, cur, h1, h2, (hk g cur h3).trans h3, h4⟩
end Go.Proofs.YtgimcloadjjefabGreatDoor

/- The document's deltas: Same, SameOp, Insert, Len. -/
namespace Go.Proofs.YtgimcloadjjefabGreatDoor
open Go Go.RowKit Go.Lib
set_option linter.unusedVariables false
end Go.Proofs.YtgimcloadjjefabGreatDoor

/- The document's deltas: Len. -/
namespace Go.Proofs.YtgimcloadjjefabGreatDoor
open Go Go.RowKit Go.Lib
set_option linter.unusedVariables false
end Go.Proofs.YtgimcloadjjefabGreatDoor

/- vellumhand.Make, Is; vellumlaw06's gone, text, large, lives. -/
namespace Go.Proofs.YtgimcloadjjefabGreatDoor
open Go Go.RowKit Go.Lib
set_option linter.unusedVariables false
/-- Lists that the calls read. -/
structure OkR (E : List Op5) : Prop where
  n : ∀ o ∈ E, o.A.length ≤ 1048576
  len : E.length ≤ 2097152
/-- A text to insert. -/
def txtO (t : ByteArray) : Op5 := ⟨1, t, z0, 0, []⟩
/-- How large a list is. -/
def larN (E : List Op5) : Int := (E.map fun o => (o.t.size : Int) + 10 * o.A.length + 10).sum
theorem larN_append (E F : List Op5) : larN (E ++ F) = larN E + larN F := by unfold larN; rw [List.map_append, List.sum_append]
theorem larN_one (o : Op5) : larN [o] = (o.t.size : Int) + 10 * o.A.length + 10 := by simp [larN]
theorem larN_le {E : List Op5} (h : FitL E) : 0 ≤ larN E ∧ larN E ≤ 20000000 * E.length := by
  induction E with
  | nil => simp [larN]
  | cons o r ih =>
    obtain ⟨h1, h2⟩ := ih (fun x hx => h x (List.mem_cons_of_mem _ hx))
    have ho := h o (List.mem_cons_self ..)
    have e : larN (o :: r) = (o.t.size : Int) + 10 * o.A.length + 10 + larN r := by simp [larN]
    have a1 := ho.t
    have a2 := ho.n
    rw [e, List.length_cons]
    omega
theorem larN_txt (E : List Op5) : (txtS E : Int) + 10 * E.length ≤ larN E := by
  induction E with
  | nil => simp [larN, txtS]
  | cons o r ih =>
    have e : larN (o :: r) = (o.t.size : Int) + 10 * o.A.length + 10 + larN r := by simp [larN]
    have e2 : txtS (o :: r) = o.t.size + txtS r := by simp [txtS]
    rw [e, e2, List.length_cons]
    omega
theorem larN_mem {E : List Op5} {o : Op5} (h : o ∈ E) : (o.t.size : Int) + 10 * o.A.length + 10 ≤ larN E := by
  induction E with
  | nil => cases h
  | cons x r ih =>
    have e : larN (x :: r) = (x.t.size : Int) + 10 * x.A.length + 10 + larN r := by simp [larN]
    have := larN_txt r
    rcases List.mem_cons.1 h with rfl | h
    · omega
    · have := ih h; omega
end Go.Proofs.YtgimcloadjjefabGreatDoor

/- vellumlaw06.lives answers true. -/
namespace Go.Proofs.YtgimcloadjjefabGreatDoor
open Go Go.RowKit Go.Lib
set_option linter.unusedVariables false

/-- A row of operations laid at once. -/
theorem row_blk {w : World} {b : Nat} {D : List OV} (h : w.heap[b]? = some (.cells (cellsO D).toArray 46 (0, 0))) : RowO w (.slice (some ⟨b, 0, none⟩) D.length D.length) D := by
  refine ⟨some ⟨b, 0, none⟩, D.length, rfl, Nat.le_refl _, fun h => (by cases h), fun j d hd => ⟨b, 0, rfl, ?_⟩⟩
  obtain ⟨k0, k1, k2, k3, k4, k5, k6⟩ := cellsO_get D j d hd
  have e : ∀ i u, (cellsO D)[i]? = some u → w.cell? ⟨b, i, none⟩ = some u := fun i u hu => by
    rw [cell_of_heap h]
    rw [List.getElem?_toArray]
    exact hu
  rw [Nat.zero_add]
  exact ⟨e _ _ k0, e _ _ k1, e _ _ k2, e _ _ k3, e _ _ k4, e _ _ k5, e _ _ k6⟩
/-- An operation without attributes, as it lies in memory. -/
abbrev ovN (o : Op5) : OV := (o.k, o.t, o.v, o.c, (none, 0, 0))
theorem re_blk {w : World} {b : Nat} {E : List Op5} (h : w.heap[b]? = some (.cells (cellsO (E.map ovN)).toArray 46 (0, 0))) (hA : ∀ o ∈ E, o.A = []) : ReO w (.slice (some ⟨b, 0, none⟩) E.length E.length) E := by
  refine ⟨E.map ovN, ?_, ?_⟩
  · have := row_blk h
    rw [List.length_map] at this
    exact this
  · clear h
    induction E with
    | nil => exact .nil
    | cons o r ih =>
      refine .cons ⟨rfl, rfl, rfl, rfl, ?_⟩ (ih fun x hx => hA x (List.mem_cons_of_mem _ hx))
      rw [hA o (List.mem_cons_self ..)]
      exact RN.nil w
def live0 : List Op5 := [delO 1, txtO ⟨#[97]⟩, delO 2, txtO ⟨#[98]⟩, ⟨3, ⟨#[]⟩, z0, 3, []⟩]
def live1 : List Op5 := [txtO ⟨#[97, 98]⟩, delO 3]
theorem live0_ok : ofE 0 0 live0 = (0, 0) := by kernel_rfl
theorem live0_canon : canonL live0 = live1 := by kernel_rfl
theorem fit_nil {o : Op5} (h1 : o.t.size ≤ 8388608) (h2 : o.v.2.2.size ≤ 1048576) (h3 : o.A = []) : Fit o := ⟨h1, h2, fun q hq => (by rw [h3] at hq; cases hq), by rw [h3]; simp⟩
theorem live0_nil : ∀ o ∈ live0, o.A = [] := by
  intro o ho
  simp only [live0, List.mem_cons, List.not_mem_nil, or_false] at ho
  rcases ho with rfl | rfl | rfl | rfl | rfl <;> rfl
theorem live1_nil : ∀ o ∈ live1, o.A = [] := by
  intro o ho
  simp only [live1, List.mem_cons, List.not_mem_nil, or_false] at ho
  rcases ho with rfl | rfl <;> rfl
theorem live0_fit : FitL live0 := by
  intro o ho
  refine fit_nil ?_ ?_ (live0_nil o ho)
  all_goals
    simp only [live0, List.mem_cons, List.not_mem_nil, or_false] at ho
    rcases ho with rfl | rfl | rfl | rfl | rfl <;> decide
theorem live1_okR : OkR live1 := ⟨fun o ho => by rw [live1_nil o ho]; simp, by decide⟩
theorem live1_good : ∀ o ∈ live1, opE o = 0 := by
  intro o ho
  simp only [live1, List.mem_cons, List.not_mem_nil, or_false] at ho
  rcases ho with rfl | rfl <;> kernel_rfl
end Go.Proofs.YtgimcloadjjefabGreatDoor

/- vellumlaw08: of, is, fixed. -/
namespace Go.Proofs.YtgimcloadjjefabGreatDoor
open Go Go.RowKit Go.Lib
set_option linter.unusedVariables false

theorem Hid.mk8 {P : Prop} (h : P) : Hid P := h
theorem canB_can {E : List Op5} (h : canonB E = true) : CanO E ∧ Fits8 E ∧ ∀ o ∈ E, opE o = 0 := by
  obtain ⟨h1, h2, h3, h4, h5⟩ := canonB_iff.1 h
  exact ⟨⟨h1, h4, h5⟩, ⟨h2, h3⟩, wel_good h1 h2⟩
theorem can_canB {E : List Op5} (h : CanO E) (hf : Fits8 E) : canonB E = true := canonB_iff.2 ⟨h.wel, hf.1, hf.2, h.chain, h.last⟩
set_option maxHeartbeats 2000000 in
set_option maxRecDepth 100000 in
theorem of8_any {I : List Nat} {a : Nat → Addr} (v : Value) (A : List Op5) (w : World) (hI : ∀ i ∈ IxO, i ∈ I) (hS : Std I a w) (hv : ReO w v A) (hF : FitL A) (hl : A.length ≤ 1048576) (ht : txtS A ≤ 4194304) :
    Calls Tryz.prog 8 #[v] w fun r w' => ∃ dv, r = .returned dv ∧ (canonB A = true → (∃ q, dv = .pointer (some ⟨q, 0, none⟩)) ∧ DlE w' w.heap.size w.heap.size dv A) ∧ (canonB A = false → dv = .pointer none) ∧ Below w.heap.size w w' := by
  have c1 := refCanon_any v A w hS hv hF hl
  have cB : Hid (canonB A = true → ∀ W, Below w.heap.size w W → Calls Tryz.prog 22 #[v] W fun r w' => ∃ q, r = .returned (.tuple #[.pointer (some ⟨q, 0, none⟩), .int .i64 0, .nilIface]) ∧ DlE w' w.heap.size w.heap.size (.pointer (some ⟨q, 0, none⟩)) A ∧ Below w.heap.size w w') := fun hc W hW => by
    obtain ⟨k1, k2, k3⟩ := canB_can hc
    have e0 := ofE_ok A 0 0 k3 (by have := k2.1; omega) (by have := k2.2; omega)
    refine (buildOf_any v A W hI (hS.below hW) (hv.below hW) hF hl (by omega)).mono ?_
    rintro r w' ⟨dv, h1, h2, -, h4⟩
    rw [e0] at h1 h2
    have hd := h2 rfl
    rw [k1.self] at hd
    obtain ⟨q, pv, PL, rfl, _⟩ := id hd
    exact ⟨q, h1, ⟨delV_low hd hW.size hW.size, k3, fun o ho => (hF o ho).fitA, Nat.le_trans hl (by decide), ht, k2⟩, hW.trans (h4.mono hW.size)⟩
  obtain ⟨D0, ⟨p, cap, rfl, _⟩, _⟩ := id hv
  obtain ⟨b, hb⟩ : ∃ x, canonB A = x := ⟨_, rfl⟩
  rw [hb] at c1 cB ⊢
  clear hS hv hF hl ht hb
  go_enter Tryz.func8, Tryz.ntmps8
  go_wp2_with fail
  refine c1.mono ?_; rintro r w2 ⟨rfl, b2⟩
  cases b with
  | false =>
    clear c1 cB
    go_wp2
    go_ret
    exact ⟨_, rfl, rfl, b2⟩
  | true =>
    have c2 := cB.out rfl w2 b2
    clear c1 cB
    go_wp2_with fail
    refine c2.mono ?_; rintro r w3 ⟨q, rfl, hd, b3⟩
    have HD := Hid.mk8 hd
    clear c2 hd b2
    go_wp2
    go_ret
    exact ⟨_, rfl, ⟨⟨q, rfl⟩, HD.out⟩, b3⟩
theorem isNo8_any (v : Value) (w : World) : Calls Tryz.prog 16 #[.pointer none, v] w fun r w' => r = .returned (.bool false) ∧ Below w.heap.size w w' := by
  go_enter Tryz.func16, Tryz.ntmps16
  go_wp2
  go_ret
  exact ⟨rfl, Below.refl _ _⟩
set_option maxHeartbeats 2000000 in
set_option maxRecDepth 100000 in
theorem is8_any {B1 B2 : Nat} (d v : Value) (E F : List Op5) (w : World) (h : DlE w B1 B2 d E) (hv : ReO w v F) (hl : F.length ≤ 2097152) (hA : ∀ e ∈ F, e.A.length ≤ 1048576) :
    Calls Tryz.prog 16 #[d, v] w fun r w' => r = .returned (.bool (decide (E = F))) ∧ Below w.heap.size w w' := by
  have c1 := ops_any d E w h.d h.g h.n (Nat.le_trans h.len (by decide))
  have c2 : Hid (∀ W v', Below w.heap.size w W → ReO W v' E → Calls Tryz.prog 31 #[v', v] W fun r w' => r = .returned (.bool (decide (E = F))) ∧ Below W.heap.size W w') := fun W v' hW h' => sameQ_any v' v E F W h' (hv.below hW) (Nat.le_trans h.len (by decide)) hl (fun e he => (h.fit e he).n) hA
  obtain ⟨q, pv, PL, rfl, _⟩ := h.d
  obtain ⟨D0, ⟨p, cap, rfl, _⟩, _⟩ := id hv
  obtain ⟨bb, hbb⟩ : ∃ x, decide (E = F) = x := ⟨_, rfl⟩
  rw [hbb] at c2 ⊢
  clear h hv hl hA hbb
  go_enter Tryz.func16, Tryz.ntmps16
  go_wp2_with fail
  refine c1.mono ?_; rintro r w2 ⟨v', rfl, hco, hb2⟩
  have c4 := c2.out w2 v' hb2 hco.re
  obtain ⟨D1, ⟨p1, c1', e1⟩, _⟩ : ∃ D1, (∃ p c, v' = .slice p D1 c) ∧ True := by
    obtain ⟨D', ⟨p', cap', e', _⟩, _⟩ := hco.re
    exact ⟨_, ⟨p', cap', e'⟩, trivial⟩
  subst e1
  clear c1 c2 hco
  go_wp2_with fail
  refine c4.mono ?_; rintro r w3 ⟨rfl, hb3⟩
  have b3 := hb2.trans (hb3.mono hb2.size)
  clear c4 hb2 hb3
  go_wp2
  go_ret
  exact ⟨rfl, b3⟩
def fixA : List Op5 := [pl7 1, delO 2]
def fixB : List Op5 := [txtO ⟨#[120]⟩]
def fixC : List Op5 := [pl7 1, txtO ⟨#[120]⟩, delO 2]
def fixD : List Op5 := [pl7 4, delO 2]
theorem fix_nil : (∀ o ∈ fixA, o.A = []) ∧ (∀ o ∈ fixB, o.A = []) ∧ (∀ o ∈ fixC, o.A = []) ∧ ∀ o ∈ fixD, o.A = [] := by
  refine ⟨fun o ho => ?_, fun o ho => ?_, fun o ho => ?_, fun o ho => ?_⟩
  · simp only [fixA, List.mem_cons, List.not_mem_nil, or_false] at ho
    rcases ho with rfl | rfl <;> rfl
  · simp only [fixB, List.mem_cons, List.not_mem_nil, or_false] at ho
    subst ho; rfl
  · simp only [fixC, List.mem_cons, List.not_mem_nil, or_false] at ho
    rcases ho with rfl | rfl | rfl <;> rfl
  · simp only [fixD, List.mem_cons, List.not_mem_nil, or_false] at ho
    rcases ho with rfl | rfl <;> rfl
theorem fix_fitA : FitL fixA := fun o ho => fit_nil (by
  simp only [fixA, List.mem_cons, List.not_mem_nil, or_false] at ho
  rcases ho with rfl | rfl <;> decide) (by
  simp only [fixA, List.mem_cons, List.not_mem_nil, or_false] at ho
  rcases ho with rfl | rfl <;> decide) (fix_nil.1 o ho)
theorem fix_fitB : FitL fixB := fun o ho => fit_nil (by
  simp only [fixB, List.mem_cons, List.not_mem_nil, or_false] at ho
  subst ho; decide) (by
  simp only [fixB, List.mem_cons, List.not_mem_nil, or_false] at ho
  subst ho; decide) (fix_nil.2.1 o ho)
theorem fix_fitC : FitL fixC := fun o ho => fit_nil (by
  simp only [fixC, List.mem_cons, List.not_mem_nil, or_false] at ho
  rcases ho with rfl | rfl | rfl <;> decide) (by
  simp only [fixC, List.mem_cons, List.not_mem_nil, or_false] at ho
  rcases ho with rfl | rfl | rfl <;> decide) (fix_nil.2.2.1 o ho)
theorem fix_fitD : FitL fixD := fun o ho => fit_nil (by
  simp only [fixD, List.mem_cons, List.not_mem_nil, or_false] at ho
  rcases ho with rfl | rfl <;> decide) (by
  simp only [fixD, List.mem_cons, List.not_mem_nil, or_false] at ho
  rcases ho with rfl | rfl <;> decide) (fix_nil.2.2.2 o ho)
theorem fix_canA : canonB fixA = true := by kernel_rfl
theorem fix_canB : canonB fixB = true := by kernel_rfl
theorem fix_cat : canonL (fixA ++ fixB) = fixC := by kernel_rfl
theorem fix_sh : shift8 fixA 3 = fixD := by
  have e : shift8 fixA 3 = canonL (pl7 3 :: fixA) := if_neg (by simp [fixA])
  exact e.trans (by kernel_rfl)
theorem fix_num : sumB fixA = 3 ∧ sumR fixA = 1 ∧ sumD8 fixA = 2 ∧ sumI8 fixB = 1 ∧ sumB fixB = 0 := by decide
theorem fix_fits : Fits8 (fixA ++ fixB) ∧ FitSh fixA 3 := by
  refine ⟨by unfold Fits8; decide, Or.inr (by decide)⟩
end Go.Proofs.YtgimcloadjjefabGreatDoor

/- vellumlaw08: fixed answers true. -/
namespace Go.Proofs.YtgimcloadjjefabGreatDoor
open Go Go.RowKit Go.Lib
set_option linter.unusedVariables false

/-- The errors that the laws ask for. -/
def IR8 : List Nat := 11 :: IxO
theorem ir8 {I : List Nat} (h : ∀ i ∈ IR8, i ∈ I) : (∀ i ∈ IxO, i ∈ I) ∧ 11 ∈ I := ⟨fun i hi => h i (List.mem_cons_of_mem _ hi), h 11 (List.mem_cons_self ..)⟩
/-- A delta of a fixed list. -/
theorem fixed_of {I : List Nat} {a : Nat → Addr} (E : List Op5) (n : Nat) (w : World) (b : Nat) (hI : ∀ i ∈ IxO, i ∈ I) (hS : Std I a w) (hn : E.length = n) (hA : ∀ o ∈ E, o.A = []) (hF : FitL E) (hl : E.length ≤ 1048576) (ht : txtS E ≤ 4194304) (hc : canonB E = true) (hb : w.heap[b]? = some (.cells (cellsO (E.map ovN)).toArray 46 (0, 0))) :
    Calls Tryz.prog 8 #[.slice (some ⟨b, 0, none⟩) n n] w fun r w' => ∃ q, r = .returned (.pointer (some ⟨q, 0, none⟩)) ∧ DlE w' w.heap.size w.heap.size (.pointer (some ⟨q, 0, none⟩)) E ∧ Below w.heap.size w w' := by
  subst hn
  refine (of8_any _ E w hI hS (re_blk hb hA) hF hl ht).mono ?_
  rintro r w' ⟨dv, rfl, h1, -, h3⟩
  obtain ⟨⟨q, rfl⟩, h2⟩ := h1 hc
  exact ⟨q, rfl, h2, h3⟩
set_option maxHeartbeats 4000000 in
set_option maxRecDepth 100000 in
theorem fixed8_any {I : List Nat} {a : Nat → Addr} (w : World) (hI : ∀ i ∈ IxO, i ∈ I) (h11 : 11 ∈ I) (hS : Std I a w) :
    Calls Tryz.prog 7 #[] w fun r w' => r = .returned (.bool true) ∧ Below w.heap.size w w' := by
  have hS' : Hid (∀ W, Below w.heap.size w W → Std I a W) := fun W h => hS.below h
  have b1 : Below w.heap.size w (w.alloc (.cells (cellsO (fixA.map ovN)).toArray 46)) := (Below.refl _ _).alloc (Nat.le_refl _) _
  have c1 := fixed_of fixA 2 _ w.heap.size hI (hS'.out _ b1) rfl fix_nil.1 fix_fitA (by decide) (by decide) fix_canA (heap_alloc_new w _)
  have cB := fun (W : World) (hW : Below w.heap.size w W) => fixed_of fixB 1 (W.alloc (.cells (cellsO (fixB.map ovN)).toArray 46)) W.heap.size hI (hS'.out _ (hW.alloc hW.size _)) rfl fix_nil.2.1 fix_fitB (by decide) (by decide) fix_canB (heap_alloc_new W _)
  have HC : Hid (∀ (W : World) (d1 d2 d3 d4 : Nat) (u v : Value), Below w.heap.size w W → DlE W d1 d2 u fixA → DlE W d3 d4 v fixB → Calls Tryz.prog 15 #[u, v] W fun r w' => ∃ q, r = .returned (.tuple #[.pointer (some ⟨q, 0, none⟩), .nilIface]) ∧ DlE w' W.heap.size W.heap.size (.pointer (some ⟨q, 0, none⟩)) fixC ∧ Below W.heap.size W w') := fun W d1 d2 d3 d4 u v hW hu hv => by
    refine (concat8_any u v fixA fixB W hI (hS'.out W hW) hu hv (by decide)).mono ?_
    rintro r w' ⟨dv, er, rfl, ⟨x1, -⟩, x3⟩
    obtain ⟨rfl, hd⟩ := x1 fix_fits.1
    rw [fix_cat] at hd
    obtain ⟨q, pv, PL, rfl, _⟩ := id hd
    exact ⟨q, rfl, ⟨hd, wel_good (by rw [← fix_cat]; exact (CanO.of (wel_app hu.wel hv.wel)).wel) (by decide), fun o ho => (fix_fitC o ho).fitA, by decide, by decide, by unfold Fits8; decide⟩, x3⟩
  have HD : Hid (∀ (W : World) (d1 d2 : Nat) (u : Value), Below w.heap.size w W → DlE W d1 d2 u fixA → Calls Tryz.prog 20 #[u, .int .i64 3] W fun r w' => ∃ q, r = .returned (.tuple #[.pointer (some ⟨q, 0, none⟩), .nilIface]) ∧ (∃ e1 e2, DlE w' e1 e2 (.pointer (some ⟨q, 0, none⟩)) fixD) ∧ Below W.heap.size W w') := fun W d1 d2 u hW hu => by
    refine (shift8_any u fixA 3 W hI h11 (hS'.out W hW) hu (by decide) (by decide)).mono ?_
    rintro r w' ⟨dv, er, rfl, ⟨-, x2⟩, x3⟩
    obtain ⟨rfl, e1, e2, hd⟩ := (x2 (by decide)).1 fix_fits.2
    rw [fix_sh] at hd
    obtain ⟨q, pv, PL, rfl, _⟩ := id hd
    exact ⟨q, rfl, ⟨e1, e2, hd, wel_good (by rw [← fix_sh]; exact (shift_units ⟨hu.wel, by kernel_rfl, by kernel_rfl⟩ (by decide) (by simp [fixA])).1.wel) (by decide), fun o ho => (fix_fitD o ho).fitA, by decide, by decide, by unfold Fits8; decide⟩, x3⟩
  have n1 := fix_num
  clear hS
  go_enter Tryz.func7, Tryz.ntmps7
  go_wp2_with fail
  refine c1.mono ?_; rintro r w2 ⟨qa, rfl, ha, b2⟩
  have hb2 := b1.trans (b2.mono b1.size)
  have HA2 := Hid.mk8 ha
  have c2 := cB w2 hb2
  clear c1 cB b1 b2 ha
  go_wp2_with fail
  refine c2.mono ?_; rintro r w3 ⟨qb, rfl, hb, b3⟩
  have ba : Below w2.heap.size w2 (w2.alloc (.cells (cellsO (fixB.map ovN)).toArray 46)) := (Below.refl _ _).alloc (Nat.le_refl _) _
  have b23 := ba.trans (b3.mono ba.size)
  have hb3 := hb2.trans (b23.mono hb2.size)
  have HA3 := Hid.mk8 (HA2.out.below b23)
  have HB3 := Hid.mk8 hb
  have c3 := base8_any _ _ w3 HA3.out
  rw [n1.1] at c3
  clear c2 hb2 b23 ba b3 hb HA2
  go_wp2_with fail
  refine c3.mono ?_; rintro r w4 ⟨rfl, b4⟩
  have hb4 := hb3.trans (b4.mono hb3.size)
  have HA4 := Hid.mk8 (HA3.out.below b4)
  have HB4 := Hid.mk8 (HB3.out.below b4)
  have c4 := result8_any _ _ w4 HA4.out
  rw [n1.2.1] at c4
  clear c3 hb3 b4 HA3 HB3
  go_wp2_with fail
  refine c4.mono ?_; rintro r w5 ⟨rfl, b5⟩
  have hb5 := hb4.trans (b5.mono hb4.size)
  have HA5 := Hid.mk8 (HA4.out.below b5)
  have HB5 := Hid.mk8 (HB4.out.below b5)
  have c5 := dl8_any _ _ w5 HA5.out
  rw [n1.2.2.1] at c5
  clear c4 hb4 b5 HA4 HB4
  go_wp2_with fail
  refine c5.mono ?_; rintro r w6 ⟨rfl, b6⟩
  have hb6 := hb5.trans (b6.mono hb5.size)
  have HA6 := Hid.mk8 (HA5.out.below b6)
  have HB6 := Hid.mk8 (HB5.out.below b6)
  have c6 := ins8_any _ _ w6 HB6.out
  rw [n1.2.2.2.1] at c6
  clear c5 hb5 b6 HA5 HB5
  go_wp2_with fail
  refine c6.mono ?_; rintro r w7 ⟨rfl, b7⟩
  have hb7 := hb6.trans (b7.mono hb6.size)
  have HA7 := Hid.mk8 (HA6.out.below b7)
  have HB7 := Hid.mk8 (HB6.out.below b7)
  have c7 := doc8_any _ _ w7 HB7.out
  rw [n1.2.2.2.2] at c7
  clear c6 hb6 b7 HA6 HB6
  go_wp2_with fail
  refine c7.mono ?_; rintro r w8 ⟨rfl, b8⟩
  have hb8 := hb7.trans (b8.mono hb7.size)
  have HA8 := Hid.mk8 (HA7.out.below b8)
  have HB8 := Hid.mk8 (HB7.out.below b8)
  have c8 := doc8_any _ _ w8 HA8.out
  rw [n1.1] at c8
  clear c7 hb7 b8 HA7 HB7
  go_wp2_with fail
  refine c8.mono ?_; rintro r w9 ⟨rfl, b9⟩
  have hb9 := hb8.trans (b9.mono hb8.size)
  have HA9 := Hid.mk8 (HA8.out.below b9)
  have HB9 := Hid.mk8 (HB8.out.below b9)
  have c9 := HC.out w9 _ _ _ _ _ _ hb9 HA9.out HB9.out
  clear c8 hb8 b9 HA8 HB8
  go_wp2_with fail
  refine c9.mono ?_; rintro r wA ⟨qc, rfl, hc, bA⟩
  have hbA := hb9.trans (bA.mono hb9.size)
  have HAA := Hid.mk8 (HA9.out.below bA)
  have HCA := Hid.mk8 hc
  have cA := HD.out wA _ _ _ hbA HAA.out
  clear c9 hb9 bA hc HA9 HB9 HC
  go_wp2_with fail
  refine cA.mono ?_; rintro r wB ⟨qd, rfl, ⟨e1, e2, hd⟩, bB⟩
  have hbB := hbA.trans (bB.mono hbA.size)
  have HDB := Hid.mk8 hd
  have HCB := Hid.mk8 (HCA.out.below bB)
  have bc : Below wB.heap.size wB (wB.alloc (.cells (cellsO (fixC.map ovN)).toArray 46)) := (Below.refl _ _).alloc (Nat.le_refl _) _
  have cI := is8_any _ (.slice (some ⟨wB.heap.size, 0, none⟩) 3 3) fixC fixC (wB.alloc (.cells (cellsO (fixC.map ovN)).toArray 46)) (HCB.out.below bc) (re_blk (heap_alloc_new wB _) fix_nil.2.2.1) (by decide) (fun e he => by rw [fix_nil.2.2.1 e he]; decide)
  rw [decide_eq_true rfl] at cI
  clear cA hbA bB hd HAA HCA HD
  go_wp2_with fail
  refine cI.mono ?_; rintro r wC ⟨rfl, bC⟩
  have hbC := (hbB.trans (bc.mono hbB.size)).trans (bC.mono (Nat.le_trans hbB.size bc.size))
  have HDC := Hid.mk8 ((HDB.out.below bc).below bC)
  have bd : Below wC.heap.size wC (wC.alloc (.cells (cellsO (fixD.map ovN)).toArray 46)) := (Below.refl _ _).alloc (Nat.le_refl _) _
  have cJ := is8_any _ (.slice (some ⟨wC.heap.size, 0, none⟩) 2 2) fixD fixD (wC.alloc (.cells (cellsO (fixD.map ovN)).toArray 46)) (HDC.out.below bd) (re_blk (heap_alloc_new wC _) fix_nil.2.2.2) (by decide) (fun e he => by rw [fix_nil.2.2.2 e he]; decide)
  rw [decide_eq_true rfl] at cJ
  clear cI hbB bC HDB HCB bc
  go_wp2_with fail
  refine cJ.mono ?_; rintro r wD ⟨rfl, bD⟩
  have hbD := (hbC.trans (bd.mono hbC.size)).trans (bD.mono (Nat.le_trans hbC.size bd.size))
  clear cJ hbC bD HDC bd
  go_wp2
  go_ret
  exact ⟨rfl, hbD⟩
end Go.Proofs.YtgimcloadjjefabGreatDoor

/- Of all lists of operations vellumlaw08.MeasureSums answers true. -/
namespace Go.Proofs.YtgimcloadjjefabGreatDoor
open Go Go.RowKit Go.Lib
set_option linter.unusedVariables false

set_option maxHeartbeats 4000000 in
set_option maxRecDepth 100000 in
theorem measureSums_any {I : List Nat} {a : Nat → Addr} (va : Value) (A : List Op5) (w : World) (hJ : ∀ i ∈ IR8, i ∈ I) (hS : Std I a w) (ra : ReO w va A) (fA : FitL A) (lA : A.length + 1 ≤ 1048576) (tA : txtS A ≤ 1048576) :
    Calls Tryz.prog 3 #[va] w fun r w' => r = .returned (.bool true) ∧ Below w.heap.size w w' := by
  obtain ⟨hI, h11⟩ := ir8 hJ
  have cF := fixed8_any w hI h11 hS
  have cO : Hid (∀ W, Below w.heap.size w W → Calls Tryz.prog 8 #[va] W fun r w' => ∃ dv, r = .returned dv ∧ (canonB A = true → (∃ q, dv = .pointer (some ⟨q, 0, none⟩)) ∧ DlE w' W.heap.size W.heap.size dv A) ∧ (canonB A = false → dv = .pointer none) ∧ Below W.heap.size W w') := fun W hW => of8_any va A W hI (hS.below hW) (ra.below hW) fA (by omega) (by omega)
  obtain ⟨D0, ⟨p, cap, rfl, _⟩, _⟩ := id ra
  clear hI h11 hJ hS ra fA lA tA
  go_enter Tryz.func3, Tryz.ntmps3
  go_wp2_with fail
  refine cF.mono ?_; rintro r w1 ⟨rfl, b1⟩
  have c1 := cO.out w1 b1
  clear cF cO
  go_wp2_with fail
  refine c1.mono ?_; rintro r w2 ⟨dv, rfl, h1, h0, b2⟩
  have hb2 := b1.trans (b2.mono b1.size)
  clear c1 b1 b2
  by_cases hc : canonB A = true
  · obtain ⟨⟨q, rfl⟩, hd⟩ := h1 hc
    have HD := Hid.mk8 hd
    have hs := hd.sums
    have hf := hd.fits
    unfold Fits8 at hf
    have c2 := base8_any _ _ w2 hd
    have cR := fun W hW => result8_any _ _ W (hd.below hW)
    have cI := fun W hW => ins8_any _ _ W (hd.below hW)
    have cD := fun W hW => dl8_any _ _ W (hd.below hW)
    have cZ := fun W hW => doc8_any _ _ W (hd.below hW)
    obtain ⟨B, hB⟩ : ∃ x, sumB A = x := ⟨_, rfl⟩
    obtain ⟨R, hR⟩ : ∃ x, sumR A = x := ⟨_, rfl⟩
    obtain ⟨I', hI'⟩ : ∃ x, sumI8 A = x := ⟨_, rfl⟩
    obtain ⟨D, hD⟩ : ∃ x, sumD8 A = x := ⟨_, rfl⟩
    rw [hB] at c2 hs hf
    rw [hR] at hs hf
    rw [hI', hD] at hs
    simp only [hB] at cZ
    simp only [hR] at cR
    simp only [hI'] at cI
    simp only [hD] at cD
    have g1 : B ≥ 0 := by omega
    have g2 : D ≥ 0 := by omega
    have g3 : I' ≥ 0 := by omega
    have g4 : D ≤ B := by omega
    have g5 : IntKind.i64.wrap (B - D) = B - D := by rw [IntKind.wrap_i64]; omega
    have g6 : IntKind.i64.wrap (B - D + I') = B - D + I' := by rw [IntKind.wrap_i64]; omega
    have g7 : (R == B - D + I') = true := by rw [beq_iff_eq]; omega
    have g8 : B ≤ 1099511627776 := by omega
    have g9 : R ≤ 1099511627776 := by omega
    have HZ : Hid ((B == 0) = (B == 0)) := rfl
    obtain ⟨z, hz⟩ : ∃ z, (B == 0) = z := ⟨_, rfl⟩
    simp only [hz] at cZ
    clear h1 h0 hc hd hs hf hB hR hI' hD
    go_wp2_with fail
    refine c2.mono ?_; rintro r w3 ⟨rfl, b3⟩
    have c3 := cR w3 b3
    have hb3 := hb2.trans (b3.mono hb2.size)
    clear c2
    go_wp2_with fail
    refine c3.mono ?_; rintro r w4 ⟨rfl, b4⟩
    have b24 := b3.trans (b4.mono b3.size)
    have c4 := cI w4 b24
    have hb4 := hb3.trans (b4.mono hb3.size)
    clear c3 hb3 b3 b4 cR
    go_wp2_with fail
    refine c4.mono ?_; rintro r w5 ⟨rfl, b5⟩
    have b25 := b24.trans (b5.mono b24.size)
    have c5 := cD w5 b25
    have hb5 := hb4.trans (b5.mono hb4.size)
    clear c4 hb4 b24 b5 cI
    go_wp2_with fail
    refine c5.mono ?_; rintro r w6 ⟨rfl, b6⟩
    have b26 := b25.trans (b6.mono b25.size)
    have c6 := cZ w6 b26
    have hb6 := hb5.trans (b6.mono hb5.size)
    clear c5 hb5 b25 b6 cD cZ hb2
    go_wp2_with fail
    refine c6.mono ?_; rintro r w7 ⟨rfl, b7⟩
    have hb7 := hb6.trans (b7.mono hb6.size)
    clear c6 hb6 b7
    cases z with
    | true =>
      go_wp2
      go_ret
      exact ⟨rfl, hb7⟩
    | false =>
      go_wp2
      go_ret
      exact ⟨rfl, hb7⟩
  · have hc' : canonB A = false := by simpa using hc
    obtain rfl := h0 hc'
    clear h1 h0 hc hc'
    go_wp2
    go_ret
    exact ⟨rfl, hb2⟩
end Go.Proofs.YtgimcloadjjefabGreatDoor
