/- Deltas unit by unit: what operations are, cell by cell and gap by gap; canonical lists are told apart by it. The canonical list of operations: its units are theirs, each gap's inserts ahead of its deletes. Deltas unit by unit: their edits of cells; their lengths. The builder as plain data: its pieces, how many cells go behind them; what it ends in is the canonical list. build: last, grow, joinText, join: the builder's own parts. build: join: the last piece and another as one. The document's deltas: push: an operation put behind others. build: join, where both are texts or both are retains. build: add and settle: a piece put behind the others. -/
import Derived.Test.YtfllomfjhkgaoaaGreatDoorMgb
import Derived.OneCell
import Derived.Maps.AppendAt

/- Deltas unit by unit: what operations are, cell by cell and gap by gap; canonical lists are told apart by it. -/
namespace Go.Proofs.YtfllomfjhkgaoaaGreatDoor
open Go Go.RowKit Go.Lib
set_option linter.unusedVariables false

/-- A unit of a delta: a cell that comes, a cell that stays with a patch, a cell that goes. -/
inductive U6 where
  | ins (c : C5)
  | keep (A : List A2)
  | del
/-- An operation that is well formed but for the upper bound of its count. -/
def Wel (o : Op5) : Prop := (Ins o ∧ (o.k = 1 ∨ o.k = 2)) ∨ (o.k = 3 ∧ o.t = ⟨#[]⟩ ∧ o.v = z0 ∧ 1 ≤ o.c ∧ listE true none o.A = 0) ∨ (o.k = 4 ∧ o.t = ⟨#[]⟩ ∧ o.v = z0 ∧ 1 ≤ o.c ∧ o.A = [])
theorem wel_of {o : Op5} (h : opE o = 0) : Wel o := by
  rcases op_good h with h | ⟨h1, h2, h3⟩ | ⟨h1, h2, h3⟩
  · exact Or.inl h
  · exact Or.inr (Or.inl ⟨h3, emp_iff.1 h1.text, h1.val, h1.lo, h2⟩)
  · exact Or.inr (Or.inr ⟨h3, emp_iff.1 h1.text, h1.val, h1.lo, h2⟩)
theorem Wel.good {o : Op5} (h : Wel o) (hc : o.c ≤ 1099511627776) : opE o = 0 := by
  rcases h with ⟨h1, h2⟩ | ⟨h1, h2, h3, h4, h5⟩ | ⟨h1, h2, h3, h4, h5⟩
  · unfold opE; rw [if_pos h2]; exact h1.zero
  · unfold opE
    rw [if_neg (by omega), if_pos h1, if_neg (by simpa using cnt_iff.2 ⟨emp_iff.2 h2, h3, h4, hc⟩)]
    exact h5
  · unfold opE
    rw [if_neg (by omega), if_neg (by omega), if_pos h1, if_neg (by simpa using h5)]
    exact cnt_iff.2 ⟨emp_iff.2 h2, h3, h4, hc⟩
theorem Wel.kinds {o : Op5} (h : Wel o) : o.k = 1 ∨ o.k = 2 ∨ o.k = 3 ∨ o.k = 4 := by
  rcases h with ⟨_, h⟩ | ⟨h, _⟩ | ⟨h, _⟩ <;> omega
/-- What an operation is, unit by unit. -/
def unitsO (o : Op5) : List U6 :=
  if o.k = 1 ∨ o.k = 2 then (cellsOf o).map .ins else if o.k = 3 then List.replicate o.c.toNat (.keep o.A) else List.replicate o.c.toNat .del
def units : List Op5 → List U6
  | [] => []
  | o :: r => unitsO o ++ units r
theorem units_append : ∀ E F : List Op5, units (E ++ F) = units E ++ units F
  | [], F => rfl
  | o :: r, F => by
    show unitsO o ++ units (r ++ F) = _
    rw [units_append r F, ← List.append_assoc]; rfl
theorem units_one (o : Op5) : units [o] = unitsO o := by show unitsO o ++ [] = _; rw [List.append_nil]

/-- May two units be of one operation? -/
def runB : U6 → U6 → Prop
  | .ins c, .ins d => 0 ≤ c.1 ∧ 0 ≤ d.1 ∧ c.2.2.2 = d.2.2.2
  | .keep A, .keep B => A = B
  | .del, .del => True
  | _, _ => False
instance (u v : U6) : Decidable (runB u v) := by cases u <;> cases v <;> unfold runB <;> infer_instance

theorem mem_cells1 {o : Op5} (hk : o.k = 1) {u : U6} (h : u ∈ (cellsOf o).map U6.ins) : ∃ r : Nat, u = .ins ((r : Int), ⟨#[]⟩, z0, o.A) := by
  obtain ⟨c, hc, rfl⟩ := List.mem_map.1 h
  unfold cellsOf at hc
  rw [if_pos hk, mkC] at hc
  obtain ⟨r, _, rfl⟩ := List.mem_map.1 hc
  exact ⟨r, rfl⟩
theorem cells2 {o : Op5} (hk : o.k = 2) : (cellsOf o).map U6.ins = [.ins (-1, o.t, o.v, o.A)] := by
  unfold cellsOf
  rw [if_neg (by omega)]; rfl
theorem scs_ne {t : ByteArray} (h : t.toList.isEmpty = false) (hb : brk t.data.toList = t.size) : scs t.data.toList ≠ [] := fun e => by
  have h1 := isEmp_size h
  unfold brk at hb
  rw [e] at hb
  simp [encs] at hb
  omega
/-- Every operation has a unit. -/
theorem unitsO_ne {o : Op5} (h : Wel o) : unitsO o ≠ [] := by
  unfold unitsO
  rcases h with ⟨h1, h2⟩ | ⟨h1, h2, h3, h4, h5⟩ | ⟨h1, h2, h3, h4, h5⟩
  · rw [if_pos h2]
    rcases h2 with h2 | h2
    · unfold cellsOf
      rw [if_pos h2, mkC]
      intro e
      rw [List.map_eq_nil_iff, List.map_eq_nil_iff] at e
      exact scs_ne h1.full h1.utf e
    · rw [cells2 h2]; simp
  · rw [if_neg (by omega), if_pos h1]
    intro e
    have := congrArg List.length e
    simp at this
    omega
  · rw [if_neg (by omega), if_neg (by omega)]
    intro e
    have := congrArg List.length e
    simp at this
    omega
/-- What a unit of an operation tells of it. -/
theorem unit_cases {o : Op5} (h : Wel o) {u : U6} (hu : u ∈ unitsO o) : (o.k = 1 ∧ ∃ r : Nat, u = .ins ((r : Int), ⟨#[]⟩, z0, o.A)) ∨ (o.k = 2 ∧ u = .ins (-1, o.t, o.v, o.A)) ∨ (o.k = 3 ∧ u = .keep o.A) ∨ (o.k = 4 ∧ u = .del) := by
  unfold unitsO at hu
  rcases h.kinds with hk | hk | hk | hk
  · rw [if_pos (Or.inl hk)] at hu
    exact Or.inl ⟨hk, mem_cells1 hk hu⟩
  · rw [if_pos (Or.inr hk), cells2 hk] at hu
    exact Or.inr (Or.inl ⟨hk, List.mem_singleton.1 hu⟩)
  · rw [if_neg (by omega), if_pos hk] at hu
    exact Or.inr (Or.inr (Or.inl ⟨hk, List.eq_of_mem_replicate hu⟩))
  · rw [if_neg (by omega), if_neg (by omega)] at hu
    exact Or.inr (Or.inr (Or.inr ⟨hk, List.eq_of_mem_replicate hu⟩))
theorem run_in {o : Op5} (h : Wel o) (hk : o.k ≠ 2) {u v : U6} (hu : u ∈ unitsO o) (hv : v ∈ unitsO o) : runB u v := by
  rcases unit_cases h hu with ⟨h1, r, rfl⟩ | ⟨h1, rfl⟩ | ⟨h1, rfl⟩ | ⟨h1, rfl⟩
  · rcases unit_cases h hv with ⟨h2, r', rfl⟩ | ⟨h2, rfl⟩ | ⟨h2, rfl⟩ | ⟨h2, rfl⟩
    · exact ⟨by simp, by simp, rfl⟩
    all_goals omega
  · exact absurd h1 hk
  · rcases unit_cases h hv with ⟨h2, r', rfl⟩ | ⟨h2, rfl⟩ | ⟨h2, rfl⟩ | ⟨h2, rfl⟩
    any_goals omega
    rfl
  · rcases unit_cases h hv with ⟨h2, r', rfl⟩ | ⟨h2, rfl⟩ | ⟨h2, rfl⟩ | ⟨h2, rfl⟩
    any_goals omega
    trivial
theorem run_apart {x y : Op5} (hx : Wel x) (hy : Wel y) (ha : apartB x y = true) {u v : U6} (hu : u ∈ unitsO x) (hv : v ∈ unitsO y) : ¬ runB u v := by
  unfold apartB at ha
  rcases unit_cases hx hu with ⟨h1, r, rfl⟩ | ⟨h1, rfl⟩ | ⟨h1, rfl⟩ | ⟨h1, rfl⟩ <;> rcases unit_cases hy hv with ⟨h2, r', rfl⟩ | ⟨h2, rfl⟩ | ⟨h2, rfl⟩ | ⟨h2, rfl⟩
  all_goals first | (intro h; cases h; done) | skip
  · rw [if_neg (by omega), if_neg (by omega)] at ha
    rintro ⟨_, _, h⟩
    simp only at h
    simp [h] at ha
  · rintro ⟨_, h, _⟩
    simp at h
  · rintro ⟨h, _, _⟩
    simp at h
  · rintro ⟨h, _, _⟩
    simp at h
  · rw [if_neg (by omega), if_neg (by omega)] at ha
    intro h
    have h : x.A = y.A := h
    simp [h] at ha
  · rw [if_pos h1, h2] at ha
    cases ha
theorem scs_injB {t t' : ByteArray} (h : brk t.data.toList = t.size) (h' : brk t'.data.toList = t'.size) (e : scs t.data.toList = scs t'.data.toList) : t = t' := by
  have e1 := valid_of_brk (l := t.data.toList) (by rw [h, size_toList])
  have e2 := valid_of_brk (l := t'.data.toList) (by rw [h', size_toList])
  apply ByteArray.ext
  apply Array.ext'
  rw [e1, e2, e]
theorem op_ext {x y : Op5} (h1 : x.k = y.k) (h2 : x.t = y.t) (h3 : x.v = y.v) (h4 : x.c = y.c) (h5 : x.A = y.A) : x = y := by
  cases x; cases y; simp only at h1 h2 h3 h4 h5; subst h1 h2 h3 h4 h5; rfl
/-- An operation is told by its units. -/
theorem unitsO_inj {x y : Op5} (hx : Wel x) (hy : Wel y) (h : unitsO x = unitsO y) : x = y := by
  obtain ⟨u, us, hu⟩ := List.exists_cons_of_ne_nil (unitsO_ne hx)
  have m1 : u ∈ unitsO x := by rw [hu]; exact List.mem_cons_self ..
  have m2 : u ∈ unitsO y := by rw [← h]; exact m1
  unfold unitsO at h
  rcases unit_cases hx m1 with ⟨h1, r, rfl⟩ | ⟨h1, rfl⟩ | ⟨h1, rfl⟩ | ⟨h1, rfl⟩ <;> rcases unit_cases hy m2 with ⟨h2, r', e⟩ | ⟨h2, e⟩ | ⟨h2, e⟩ | ⟨h2, e⟩
  any_goals (simp at e; done)
  · rw [if_pos (Or.inl h1), if_pos (Or.inl h2)] at h
    simp only [U6.ins.injEq, Prod.mk.injEq] at e
    obtain ⟨i1, _⟩ := hx.resolve_right (by rintro (h | h) <;> omega)
    obtain ⟨i2, _⟩ := hy.resolve_right (by rintro (h | h) <;> omega)
    unfold cellsOf at h
    rw [if_pos h1, if_pos h2, mkC, mkC, ← e.2.2.2, List.map_map, List.map_map] at h
    have := (List.map_inj_right (fun (a b : Nat) (hab : (U6.ins ((a : Int), (⟨#[]⟩ : ByteArray), z0, x.A)) = U6.ins ((b : Int), ⟨#[]⟩, z0, x.A)) => by
      simp only [U6.ins.injEq, Prod.mk.injEq] at hab
      exact Int.ofNat_inj.1 hab.1)).1 h
    refine op_ext (by omega) (scs_injB i1.utf i2.utf this) ?_ (by rw [i1.count, i2.count]) e.2.2.2
    rw [(i1.kind.resolve_right (by omega)).2, (i2.kind.resolve_right (by omega)).2]
  · simp only [U6.ins.injEq, Prod.mk.injEq] at e
    obtain ⟨i1, _⟩ := hx.resolve_right (by rintro (h | h) <;> omega)
    obtain ⟨i2, _⟩ := hy.resolve_right (by rintro (h | h) <;> omega)
    exact op_ext (by omega) e.2.1 e.2.2.1 (by rw [i1.count, i2.count]) e.2.2.2
  · rw [if_neg (by omega), if_pos h1, if_neg (by omega), if_pos h2] at h
    have hl := congrArg List.length h
    simp only [List.length_replicate] at hl
    obtain ⟨_, a1, a2, a3, _⟩ := (hx.resolve_left (fun h => by omega)).resolve_right (fun h => by omega)
    obtain ⟨_, b1, b2, b3, _⟩ := (hy.resolve_left (fun h => by omega)).resolve_right (fun h => by omega)
    simp only [U6.keep.injEq] at e
    exact op_ext (by omega) (by rw [a1, b1]) (by rw [a2, b2]) (by omega) e
  · rw [if_neg (by omega), if_neg (by omega), if_neg (by omega), if_neg (by omega)] at h
    have hl := congrArg List.length h
    simp only [List.length_replicate] at hl
    obtain ⟨_, a1, a2, a3, a4⟩ := (hx.resolve_left (fun h => by omega)).resolve_left (fun h => by omega)
    obtain ⟨_, b1, b2, b3, b4⟩ := (hy.resolve_left (fun h => by omega)).resolve_left (fun h => by omega)
    exact op_ext (by omega) (by rw [a1, b1]) (by rw [a2, b2]) (by omega) (by rw [a4, b4])
theorem takeWhile_run {p : U6 → Bool} : ∀ {a b : List U6}, (∀ v ∈ a, p v = true) → (∀ v, b.head? = some v → p v = false) → (a ++ b).takeWhile p = a
  | [], [], _, _ => rfl
  | [], v :: b, _, h => by rw [List.nil_append, List.takeWhile_cons, h v rfl]; rfl
  | u :: a, b, h, hb => by
    rw [List.cons_append, List.takeWhile_cons, h u (List.mem_cons_self ..)]
    simp only [if_true]
    rw [takeWhile_run (fun v hv => h v (List.mem_cons_of_mem _ hv)) hb]
theorem head_units {y : Op5} {r : List Op5} (hy : Wel y) {v : U6} (h : (units (y :: r)).head? = some v) : v ∈ unitsO y := by
  obtain ⟨u, us, hu⟩ := List.exists_cons_of_ne_nil (unitsO_ne hy)
  have : (units (y :: r)).head? = some u := by show (unitsO y ++ units r).head? = _; rw [hu]; rfl
  rw [this] at h
  obtain rfl := Option.some.inj h
  rw [hu]; exact List.mem_cons_self ..
theorem chain_tail {x : Op5} {r : List Op5} (h : chainB (x :: r) = true) : chainB r = true := by
  cases r with
  | nil => rfl
  | cons y r => rw [chainB, Bool.and_eq_true] at h; exact h.2
/-- **Lists in which no two neighbours might be one are told by their units.** -/
theorem units_inj : ∀ {E F : List Op5}, (∀ o ∈ E, Wel o) → (∀ o ∈ F, Wel o) → chainB E = true → chainB F = true → units E = units F → E = F
  | [], [], _, _, _, _, _ => rfl
  | [], y :: s, _, hF, _, _, h => by
    exfalso
    have := unitsO_ne (hF y (List.mem_cons_self ..))
    have h : [] = unitsO y ++ units s := h
    exact this (List.append_eq_nil_iff.1 h.symm).1
  | x :: r, [], hE, _, _, _, h => by
    exfalso
    have := unitsO_ne (hE x (List.mem_cons_self ..))
    have h : unitsO x ++ units r = [] := h
    exact this (List.append_eq_nil_iff.1 h).1
  | x :: r, y :: s, hE, hF, cE, cF, h => by
    have wx := hE x (List.mem_cons_self ..)
    have wy := hF y (List.mem_cons_self ..)
    have h' : unitsO x ++ units r = unitsO y ++ units s := h
    have run : ∀ {z : Op5} {q : List Op5} (hz : Wel z) (hq : ∀ o ∈ q, Wel o) (hc : chainB (z :: q) = true) (hk : z.k ≠ 2) (u : U6) (hu : u ∈ unitsO z), (unitsO z ++ units q).takeWhile (fun v => decide (runB u v)) = unitsO z := fun {z q} hz hq hc hk u hu => by
      refine takeWhile_run (fun v hv => decide_eq_true (run_in hz hk hu hv)) (fun v hv => decide_eq_false ?_)
      cases q with
      | nil => cases hv
      | cons w q =>
        have ww := hq w (List.mem_cons_self ..)
        rw [chainB, Bool.and_eq_true] at hc
        exact run_apart hz ww hc.1 hu (head_units ww hv)
    obtain ⟨u, us, hu⟩ := List.exists_cons_of_ne_nil (unitsO_ne wx)
    obtain ⟨u', us', hu'⟩ := List.exists_cons_of_ne_nil (unitsO_ne wy)
    obtain rfl : u = u' := by rw [hu, hu'] at h'; exact (List.cons.inj h').1
    have m1 : u ∈ unitsO x := by rw [hu]; exact List.mem_cons_self ..
    have m2 : u ∈ unitsO y := by rw [hu']; exact List.mem_cons_self ..
    have e : unitsO x = unitsO y := by
      by_cases hx2 : x.k = 2
      · by_cases hy2 : y.k = 2
        · rcases unit_cases wx m1 with ⟨h1, _⟩ | ⟨h1, e1⟩ | ⟨h1, _⟩ | ⟨h1, _⟩
          any_goals omega
          rcases unit_cases wy m2 with ⟨h2, _⟩ | ⟨h2, e2⟩ | ⟨h2, _⟩ | ⟨h2, _⟩
          any_goals omega
          unfold unitsO
          rw [if_pos (Or.inr hx2), if_pos (Or.inr hy2), cells2 hx2, cells2 hy2, ← e1, ← e2]
        · exfalso
          have := run_in wy hy2 m2 m2
          rcases unit_cases wx m1 with ⟨h1, _⟩ | ⟨h1, e1⟩ | ⟨h1, _⟩ | ⟨h1, _⟩
          any_goals omega
          rw [e1] at this
          have h0 : (0 : Int) ≤ -1 := this.1
          omega
      · by_cases hy2 : y.k = 2
        · exfalso
          have := run_in wx hx2 m1 m1
          rcases unit_cases wy m2 with ⟨h1, _⟩ | ⟨h1, e1⟩ | ⟨h1, _⟩ | ⟨h1, _⟩
          any_goals omega
          rw [e1] at this
          have h0 : (0 : Int) ≤ -1 := this.1
          omega
        · rw [← run wx (fun o ho => hE o (List.mem_cons_of_mem _ ho)) cE hx2 u m1, h', run wy (fun o ho => hF o (List.mem_cons_of_mem _ ho)) cF hy2 u m2]
    rw [unitsO_inj wx wy e]
    rw [e] at h'
    rw [units_inj (fun o ho => hE o (List.mem_cons_of_mem _ ho)) (fun o ho => hF o (List.mem_cons_of_mem _ ho)) (chain_tail cE) (chain_tail cF) (List.append_cancel_left h')]
end Go.Proofs.YtfllomfjhkgaoaaGreatDoor

/- The canonical list of operations: its units are theirs, each gap's inserts ahead of its deletes. -/
namespace Go.Proofs.YtfllomfjhkgaoaaGreatDoor
open Go Go.RowKit Go.Lib
set_option linter.unusedVariables false

/-- Units, each gap's inserts ahead of its deletes (I, d: what the gap at hand has so far). -/
def nrm (I : List U6) (d : Nat) : List U6 → List U6
  | [] => I ++ List.replicate d .del
  | .keep A :: r => I ++ (List.replicate d .del ++ .keep A :: nrm [] 0 r)
  | .del :: r => nrm I (d + 1) r
  | .ins c :: r => nrm (I ++ [.ins c]) d r
theorem nrm_ins (l : List C5) : ∀ (I : List U6) (d : Nat) (r : List U6), nrm I d (l.map .ins ++ r) = nrm (I ++ l.map .ins) d r := by
  induction l with
  | nil => intro I d r; simp
  | cons c l ih =>
    intro I d r
    show nrm (I ++ [.ins c]) d (l.map .ins ++ r) = _
    rw [ih]; simp
theorem nrm_del (n : Nat) : ∀ (I : List U6) (d : Nat) (r : List U6), nrm I d (List.replicate n .del ++ r) = nrm I (d + n) r := by
  induction n with
  | zero => intro I d r; simp
  | succ n ih =>
    intro I d r
    rw [List.replicate_succ]
    show nrm I (d + 1) (List.replicate n .del ++ r) = _
    rw [ih, show d + 1 + n = d + (n + 1) by omega]
theorem nrm_keeps (A : List A2) : ∀ (n : Nat) (r : List U6), nrm [] 0 (List.replicate n (.keep A) ++ r) = List.replicate n (.keep A) ++ nrm [] 0 r
  | 0, r => by simp
  | n + 1, r => by
    rw [List.replicate_succ]
    show [] ++ (List.replicate 0 U6.del ++ .keep A :: nrm [] 0 (List.replicate n (.keep A) ++ r)) = _
    rw [nrm_keeps A n r]; rfl
theorem nrm_keep (A : List A2) (n : Nat) (hn : 1 ≤ n) (I : List U6) (d : Nat) (r : List U6) :
    nrm I d (List.replicate n (.keep A) ++ r) = I ++ (List.replicate d .del ++ (List.replicate n (.keep A) ++ nrm [] 0 r)) := by
  obtain ⟨m, rfl⟩ : ∃ m, n = m + 1 := ⟨n - 1, by omega⟩
  rw [List.replicate_succ]
  show I ++ (List.replicate d U6.del ++ .keep A :: nrm [] 0 (List.replicate m (.keep A) ++ r)) = _
  rw [nrm_keeps]; rfl
theorem nrm_pre (J I : List U6) : ∀ (r : List U6) (d : Nat), nrm (J ++ I) d r = J ++ nrm I d r
  | [], d => by show (J ++ I) ++ _ = _; rw [List.append_assoc]; rfl
  | .keep A :: r, d => by show (J ++ I) ++ _ = _; rw [List.append_assoc]; rfl
  | .del :: r, d => nrm_pre J I r (d + 1)
  | .ins c :: r, d => by
    show nrm (J ++ I ++ [.ins c]) d r = J ++ nrm (I ++ [.ins c]) d r
    rw [List.append_assoc]
    exact nrm_pre J (I ++ [.ins c]) r d
theorem unitsO_1 {o : Op5} (h : o.k = 1 ∨ o.k = 2) : unitsO o = (cellsOf o).map .ins := by unfold unitsO; rw [if_pos h]
theorem unitsO_3 {o : Op5} (h : o.k = 3) : unitsO o = List.replicate o.c.toNat (.keep o.A) := by unfold unitsO; rw [if_neg (by omega), if_pos h]
theorem unitsO_4 {o : Op5} (h : o.k = 4) : unitsO o = List.replicate o.c.toNat .del := by unfold unitsO; rw [if_neg (by omega), if_neg (by omega)]
theorem Wel.count {o : Op5} (h : Wel o) (hk : o.k = 3 ∨ o.k = 4) : 1 ≤ o.c := by
  rcases h with ⟨_, h⟩ | ⟨_, _, _, h, _⟩ | ⟨_, _, _, h, _⟩
  · omega
  · exact h
  · exact h

/-- Two operations as one. -/
def jnO (x o : Op5) : Op5 := ⟨x.k, x.t ++ o.t, x.v, x.c + o.c, x.A⟩
/-- An operation put behind others, joined with the last one where that may be. -/
def pushL (out : List Op5) (o : Op5) : List Op5 :=
  match out.getLast? with
  | none => [o]
  | some x => if x.k ≠ o.k ∨ o.k = 2 ∨ x.A ≠ o.A then out ++ [o] else out.dropLast ++ [jnO x o]
theorem push_nil (o : Op5) : pushL [] o = [o] := rfl
theorem push_apart {F : List Op5} {x o : Op5} (h : x.k ≠ o.k ∨ o.k = 2 ∨ x.A ≠ o.A) : pushL (F ++ [x]) o = F ++ [x] ++ [o] := by
  unfold pushL
  rw [List.getLast?_concat]
  exact if_pos h
theorem push_join {F : List Op5} {x o : Op5} (h : ¬ (x.k ≠ o.k ∨ o.k = 2 ∨ x.A ≠ o.A)) : pushL (F ++ [x]) o = F ++ [jnO x o] := by
  unfold pushL
  rw [List.getLast?_concat, List.dropLast_concat]
  exact if_neg h
theorem join_wel {x o : Op5} (hx : Wel x) (ho : Wel o) (hk : x.k = o.k) (h2 : o.k ≠ 2) (hA : x.A = o.A) : Wel (jnO x o) ∧ unitsO (jnO x o) = unitsO x ++ unitsO o := by
  have e0 : (⟨#[]⟩ : ByteArray) ++ ⟨#[]⟩ = ⟨#[]⟩ := rfl
  rcases hx with ⟨i1, k1⟩ | ⟨k1, a1, a2, a3, a4⟩ | ⟨k1, a1, a2, a3, a4⟩
  · have k1 : x.k = 1 := by omega
    obtain ⟨i2, _⟩ := ho.resolve_right (by rintro (h | h) <;> omega)
    have hs : (x.t ++ o.t).size = x.t.size + o.t.size := ByteArray.size_append
    have hc := scs_cat (a := x.t.data.toList) (b := o.t.data.toList) (by rw [i1.utf, size_toList]) (by rw [i2.utf, size_toList])
    refine ⟨Or.inl ⟨⟨Or.inl ⟨k1, (i1.kind.resolve_right (by omega)).2⟩, size_isEmp ?_, ?_, ?_, i1.val, i1.set⟩, Or.inl k1⟩, ?_⟩
    · have := isEmp_size i1.full
      show 0 < (x.t ++ o.t).size
      omega
    · show x.c + o.c = 0
      rw [i1.count, i2.count]; rfl
    · show brk (x.t ++ o.t).data.toList = (x.t ++ o.t).size
      rw [cat_list, hc.2, List.length_append, size_toList, size_toList, hs]
    · rw [unitsO_1 (show (jnO x o).k = 1 ∨ (jnO x o).k = 2 from Or.inl k1), unitsO_1 (Or.inl k1), unitsO_1 (Or.inl (by omega))]
      unfold cellsOf
      rw [if_pos (show (jnO x o).k = 1 from k1), if_pos k1, if_pos (show o.k = 1 by omega), ← hA]
      show (mkC x.A (scs (x.t ++ o.t).data.toList)).map U6.ins = _
      rw [cat_list, hc.1]
      simp [mkC]
  · obtain ⟨_, b1, b2, b3, b4⟩ := (ho.resolve_left (fun h => by omega)).resolve_right (fun h => by omega)
    refine ⟨Or.inr (Or.inl ⟨k1, by show x.t ++ o.t = _; rw [a1, b1, e0], a2, by show 1 ≤ x.c + o.c; omega, a4⟩), ?_⟩
    rw [unitsO_3 (show (jnO x o).k = 3 from k1), unitsO_3 k1, unitsO_3 (by omega), ← hA]
    show List.replicate (x.c + o.c).toNat (U6.keep x.A) = _
    rw [show (x.c + o.c).toNat = x.c.toNat + o.c.toNat by omega, List.replicate_append_replicate.symm]
  · obtain ⟨_, b1, b2, b3, b4⟩ := (ho.resolve_left (fun h => by omega)).resolve_left (fun h => by omega)
    refine ⟨Or.inr (Or.inr ⟨k1, by show x.t ++ o.t = _; rw [a1, b1, e0], a2, by show 1 ≤ x.c + o.c; omega, a4⟩), ?_⟩
    rw [unitsO_4 (show (jnO x o).k = 4 from k1), unitsO_4 k1, unitsO_4 (by omega)]
    show List.replicate (x.c + o.c).toNat U6.del = _
    rw [show (x.c + o.c).toNat = x.c.toNat + o.c.toNat by omega, List.replicate_append_replicate.symm]
theorem chain_snoc : ∀ (E : List Op5) (x o : Op5), chainB (E ++ [x] ++ [o]) = (chainB (E ++ [x]) && apartB x o)
  | [], x, o => by simp [chainB]
  | [y], x, o => by simp [chainB]
  | y :: z :: r, x, o => by
    have := chain_snoc (z :: r) x o
    simp only [List.cons_append, chainB] at this ⊢
    rw [this, Bool.and_assoc]
theorem chain_last : ∀ (E : List Op5) {x y : Op5}, x.k = y.k → x.A = y.A → chainB (E ++ [x]) = chainB (E ++ [y])
  | [], x, y, _, _ => rfl
  | [z], x, y, hk, hA => by simp [chainB, apartB, hk, hA]
  | z :: u :: r, x, y, hk, hA => by
    have := chain_last (u :: r) hk hA
    simp only [List.cons_append, chainB] at this ⊢
    rw [this]
/-- A list that no two neighbours of which might be one, well formed; the kind of its last one. -/
structure Chn (E : List Op5) (P : Int → Prop) : Prop where
  wel : ∀ o ∈ E, Wel o
  chain : chainB E = true
  last : ∀ F x, E = F ++ [x] → P x.k
theorem wel_snoc {F : List Op5} {x : Op5} : (∀ o ∈ F ++ [x], Wel o) ↔ (∀ o ∈ F, Wel o) ∧ Wel x := by
  constructor
  · intro h; exact ⟨fun o ho => h o (List.mem_append_left _ ho), h x (List.mem_append_right _ (List.mem_singleton.2 rfl))⟩
  · rintro ⟨h1, h2⟩ o ho
    rcases List.mem_append.1 ho with h | h
    · exact h1 o h
    · rw [List.mem_singleton.1 h]; exact h2
theorem last_snoc {P : Int → Prop} {G : List Op5} {z : Op5} (h : P z.k) : ∀ F x, G ++ [z] = F ++ [x] → P x.k := fun F x e => by
  have := List.append_inj_right' e rfl
  rw [← List.cons.inj this |>.1]; exact h
theorem push_chn {out : List Op5} {o : Op5} {P : Int → Prop} (h : Chn out P) (ho : Wel o) (hP : ∀ k, P k → k = 4 → o.k = 3 ∨ o.k = 4) :
    Chn (pushL out o) (fun k => k = o.k) ∧ units (pushL out o) = units out ++ unitsO o := by
  rcases List.eq_nil_or_concat out with rfl | ⟨F, x, rfl⟩
  · rw [push_nil]
    exact ⟨⟨fun y hy => by rw [List.mem_singleton.1 hy]; exact ho, rfl, last_snoc (P := fun k => k = o.k) (G := []) (z := o) rfl⟩, by rw [units_one]; rfl⟩
  · rw [List.concat_eq_append] at h ⊢
    obtain ⟨w1, w2⟩ := wel_snoc.1 h.wel
    have hl := h.last F x rfl
    by_cases hj : x.k ≠ o.k ∨ o.k = 2 ∨ x.A ≠ o.A
    · rw [push_apart hj]
      refine ⟨⟨wel_snoc.2 ⟨h.wel, ho⟩, ?_, last_snoc (P := fun k => k = o.k) (z := o) rfl⟩, by rw [units_append (F ++ [x]), units_one]⟩
      rw [chain_snoc, h.chain]
      unfold apartB
      by_cases h4 : x.k = 4
      · rw [if_pos h4]
        rcases hP _ hl h4 with h3 | h3
        · simp [h3]
        · exfalso
          rcases hj with hj | hj | hj
          · omega
          · omega
          · obtain ⟨_, _, _, _, a⟩ := (w2.resolve_left (fun h => by omega)).resolve_left (fun h => by omega)
            obtain ⟨_, _, _, _, b⟩ := (ho.resolve_left (fun h => by omega)).resolve_left (fun h => by omega)
            exact hj (by rw [a, b])
      · rw [if_neg h4]
        by_cases h5 : x.k ≠ o.k ∨ x.k = 2
        · rw [if_pos h5]; rfl
        · rw [if_neg h5]
          have : x.A ≠ o.A := by
            rcases hj with hj | hj | hj
            · exact absurd (Or.inl hj) h5
            · exact absurd (Or.inr (by omega)) h5
            · exact hj
          simp [this]
    · rw [push_join hj]
      have hk : x.k = o.k := Decidable.byContradiction fun e => hj (Or.inl e)
      have h2 : o.k ≠ 2 := fun e => hj (Or.inr (Or.inl e))
      have hA : x.A = o.A := Decidable.byContradiction fun e => hj (Or.inr (Or.inr e))
      obtain ⟨j1, j2⟩ := join_wel w2 ho hk h2 hA
      refine ⟨⟨wel_snoc.2 ⟨w1, j1⟩, ?_, last_snoc (P := fun k => k = o.k) (z := jnO x o) (show (jnO x o).k = o.k from hk)⟩, ?_⟩
      · rw [chain_last F (x := jnO x o) (y := x) rfl rfl]; exact h.chain
      · rw [units_append, units_one, j2, units_append, units_one, List.append_assoc]

/-- A delete. -/
def delO (n : Int) : Op5 := ⟨4, ⟨#[]⟩, z0, n, []⟩
theorem delO_wel {n : Int} (h : 1 ≤ n) : Wel (delO n) := Or.inr (Or.inr ⟨rfl, rfl, rfl, h, rfl⟩)
/-- What a gap has, put behind. -/
def flushL (out gap : List Op5) (g : Int) : List Op5 := if 0 < g then pushL (gap.foldl pushL out) (delO g) else gap.foldl pushL out
/-- One operation gathered: what is whole, the gap's inserts, how many cells go there. -/
def stepC (s : List Op5 × List Op5 × Int) (o : Op5) : List Op5 × List Op5 × Int :=
  if o.k = 1 ∨ o.k = 2 then (s.1, s.2.1 ++ [o], s.2.2) else if o.k = 4 then (s.1, s.2.1, s.2.2 + o.c) else (pushL (flushL s.1 s.2.1 s.2.2) o, [], 0)
def runC (E : List Op5) : List Op5 × List Op5 × Int := E.foldl stepC ([], [], 0)
/-- Without a plain retain at the end. -/
def trimL (out : List Op5) : List Op5 := match out.getLast? with | some o => if plainR o then out.dropLast else out | none => out
/-- The canonical list of operations. -/
def canonL (E : List Op5) : List Op5 := trimL (flushL (runC E).1 (runC E).2.1 (runC E).2.2)
theorem gap_chn : ∀ {gap out : List Op5}, Chn out (fun k => k ≠ 4) → (∀ o ∈ gap, Wel o ∧ (o.k = 1 ∨ o.k = 2)) →
    Chn (gap.foldl pushL out) (fun k => k ≠ 4) ∧ units (gap.foldl pushL out) = units out ++ units gap
  | [], out, h, _ => ⟨h, by show _ = _ ++ []; rw [List.append_nil]; rfl⟩
  | o :: r, out, h, hg => by
    obtain ⟨ho, hk⟩ := hg o (List.mem_cons_self ..)
    obtain ⟨p1, p2⟩ := push_chn h ho (fun k h4 e => absurd e h4)
    have p1' : Chn (pushL out o) (fun k => k ≠ 4) := ⟨p1.wel, p1.chain, fun F x e => by have := p1.last F x e; omega⟩
    obtain ⟨q1, q2⟩ := gap_chn p1' (fun x hx => hg x (List.mem_cons_of_mem _ hx))
    refine ⟨q1, ?_⟩
    show units (r.foldl pushL (pushL out o)) = _
    rw [q2, p2, List.append_assoc]; rfl
theorem flush_chn {out gap : List Op5} {g : Int} (h : Chn out (fun k => k = 3)) (hg : ∀ o ∈ gap, Wel o ∧ (o.k = 1 ∨ o.k = 2)) :
    Chn (flushL out gap g) (fun _ => True) ∧ units (flushL out gap g) = units out ++ (units gap ++ List.replicate g.toNat .del) := by
  obtain ⟨p1, p2⟩ := gap_chn (⟨h.wel, h.chain, fun F x e => by have := h.last F x e; omega⟩ : Chn out (fun k => k ≠ 4)) hg
  unfold flushL
  split
  · rename_i h0
    obtain ⟨q1, q2⟩ := push_chn p1 (delO_wel h0) (fun k h4 e => absurd e h4)
    refine ⟨⟨q1.wel, q1.chain, fun _ _ _ => trivial⟩, ?_⟩
    rw [q2, p2, List.append_assoc, unitsO_4 (show (delO g).k = 4 from rfl)]; rfl
  · rename_i h0
    refine ⟨⟨p1.wel, p1.chain, fun _ _ _ => trivial⟩, ?_⟩
    rw [p2, show g.toNat = 0 by omega]
    simp
/-- What is so between two operations. -/
structure Run (E : List Op5) (s : List Op5 × List Op5 × Int) : Prop where
  out : Chn s.1 (fun k => k = 3)
  gap : ∀ o ∈ s.2.1, Wel o ∧ (o.k = 1 ∨ o.k = 2)
  gone : 0 ≤ s.2.2
  same : ∀ r, nrm [] 0 (units E ++ r) = units s.1 ++ nrm (units s.2.1) s.2.2.toNat r
theorem run_step {E : List Op5} {s : List Op5 × List Op5 × Int} {o : Op5} (h : Run E s) (ho : Wel o) : Run (E ++ [o]) (stepC s o) := by
  have hs : ∀ r, nrm [] 0 (units (E ++ [o]) ++ r) = units s.1 ++ nrm (units s.2.1) s.2.2.toNat (unitsO o ++ r) := fun r => by
    rw [units_append, units_one, List.append_assoc, h.same]
  unfold stepC
  rcases ho.kinds with hk | hk | hk | hk
  · rw [if_pos (Or.inl hk)]
    refine ⟨h.out, fun x hx => ?_, h.gone, fun r => ?_⟩
    · rcases List.mem_append.1 hx with hx | hx
      · exact h.gap x hx
      · rw [List.mem_singleton.1 hx]; exact ⟨ho, Or.inl hk⟩
    · rw [hs, unitsO_1 (Or.inl hk), nrm_ins, units_append, units_one, unitsO_1 (Or.inl hk)]
  · rw [if_pos (Or.inr hk)]
    refine ⟨h.out, fun x hx => ?_, h.gone, fun r => ?_⟩
    · rcases List.mem_append.1 hx with hx | hx
      · exact h.gap x hx
      · rw [List.mem_singleton.1 hx]; exact ⟨ho, Or.inr hk⟩
    · rw [hs, unitsO_1 (Or.inr hk), nrm_ins, units_append, units_one, unitsO_1 (Or.inr hk)]
  · rw [if_neg (by omega), if_neg (by omega)]
    obtain ⟨f1, f2⟩ := flush_chn (g := s.2.2) h.out h.gap
    obtain ⟨p1, p2⟩ := push_chn f1 ho (fun k _ _ => Or.inl hk)
    refine ⟨⟨p1.wel, p1.chain, fun F x e => by have := p1.last F x e; omega⟩, fun x hx => (by cases hx), Int.le_refl 0, fun r => ?_⟩
    have hc := ho.count (Or.inl hk)
    rw [hs, unitsO_3 hk, nrm_keep _ _ (by omega)]
    show _ = units (pushL _ o) ++ nrm [] 0 r
    rw [p2, f2, unitsO_3 hk]
    simp only [List.append_assoc]
  · rw [if_neg (by omega), if_pos hk]
    have hc := ho.count (Or.inr hk)
    refine ⟨h.out, h.gap, ?_, fun r => ?_⟩
    · have := h.gone
      show 0 ≤ s.2.2 + o.c
      omega
    · have := h.gone
      rw [hs, unitsO_4 hk, nrm_del]
      show _ = units s.1 ++ nrm (units s.2.1) (s.2.2 + o.c).toNat r
      rw [show (s.2.2 + o.c).toNat = s.2.2.toNat + o.c.toNat by omega]
theorem run_all : ∀ (F E : List Op5) (s : List Op5 × List Op5 × Int), Run E s → (∀ o ∈ F, Wel o) → Run (E ++ F) (F.foldl stepC s)
  | [], E, s, h, _ => by rw [List.append_nil]; exact h
  | o :: r, E, s, h, hF => by
    have := run_all r (E ++ [o]) (stepC s o) (run_step h (hF o (List.mem_cons_self ..))) (fun x hx => hF x (List.mem_cons_of_mem _ hx))
    rw [List.append_assoc] at this
    exact this
theorem run_of {E : List Op5} (h : ∀ o ∈ E, Wel o) : Run E (runC E) := by
  have := run_all E [] ([], [], 0) ⟨⟨fun o ho => (by cases ho), rfl, fun F x e => (by simp at e)⟩, fun o ho => (by cases ho), Int.le_refl 0, fun r => rfl⟩ h
  rw [List.nil_append] at this
  exact this

/-- Is a unit kept as it is? -/
def plainU : U6 → Bool
  | .keep A => A.isEmpty
  | _ => false
/-- Units without those at the end that are kept as they are. -/
def stripU (U : List U6) : List U6 := (U.reverse.dropWhile plainU).reverse
theorem strip_end {U : List U6} {u : U6} (h : plainU u = false) : stripU (U ++ [u]) = U ++ [u] := by
  unfold stripU
  rw [List.reverse_append]
  show ((u :: U.reverse).dropWhile plainU).reverse = _
  rw [List.dropWhile_cons, h]
  simp
theorem strip_plain {u : U6} (h : plainU u = true) : ∀ (n : Nat) (U : List U6), stripU (U ++ List.replicate n u) = stripU U
  | 0, U => by simp
  | n + 1, U => by
    rw [List.replicate_succ', ← List.append_assoc]
    unfold stripU
    rw [List.reverse_append]
    show ((u :: (U ++ List.replicate n u).reverse).dropWhile plainU).reverse = _
    rw [List.dropWhile_cons, h]
    exact strip_plain h n U
theorem units_last {x : Op5} (h : Wel x) (hp : plainR x = false) : ∃ us u, unitsO x = us ++ [u] ∧ plainU u = false := by
  rcases List.eq_nil_or_concat (unitsO x) with he | ⟨us, u, he⟩
  · exact absurd he (unitsO_ne h)
  · rw [List.concat_eq_append] at he
    refine ⟨us, u, he, ?_⟩
    have hu : u ∈ unitsO x := by rw [he]; simp
    rcases unit_cases h hu with ⟨h1, r, rfl⟩ | ⟨h1, rfl⟩ | ⟨h1, rfl⟩ | ⟨h1, rfl⟩
    · rfl
    · rfl
    · unfold plainR at hp
      rw [h1] at hp
      simpa [plainU] using hp
    · rfl
theorem strip_id {F : List Op5} {x : Op5} (h : Wel x) (hp : plainR x = false) : stripU (units (F ++ [x])) = units (F ++ [x]) := by
  obtain ⟨us, u, h1, h2⟩ := units_last h hp
  rw [units_append, units_one, h1, ← List.append_assoc]
  exact strip_end h2
theorem lastP_snoc (F : List Op5) (x : Op5) : lastP (F ++ [x]) = !plainR x := by unfold lastP; rw [List.getLast?_concat]
theorem strip_can {E : List Op5} (hw : ∀ o ∈ E, Wel o) (hl : lastP E = true) : stripU (units E) = units E := by
  rcases List.eq_nil_or_concat E with rfl | ⟨F, x, rfl⟩
  · rfl
  · rw [List.concat_eq_append] at *
    rw [lastP_snoc] at hl
    exact strip_id (wel_snoc.1 hw).2 (by simpa using hl)
theorem chain_front {F : List Op5} {x : Op5} (h : chainB (F ++ [x]) = true) : chainB F = true := by
  rcases List.eq_nil_or_concat F with rfl | ⟨G, y, rfl⟩
  · rfl
  · rw [List.concat_eq_append] at *
    rw [chain_snoc, Bool.and_eq_true] at h
    exact h.1
theorem trim_chn {E : List Op5} {P : Int → Prop} (h : Chn E P) : (∀ o ∈ trimL E, Wel o) ∧ chainB (trimL E) = true ∧ lastP (trimL E) = true ∧ units (trimL E) = stripU (units E) := by
  rcases List.eq_nil_or_concat E with rfl | ⟨F, x, rfl⟩
  · exact ⟨h.wel, h.chain, rfl, rfl⟩
  · rw [List.concat_eq_append] at *
    obtain ⟨w1, w2⟩ := wel_snoc.1 h.wel
    unfold trimL
    rw [List.getLast?_concat]
    simp only [List.dropLast_concat]
    cases hp : plainR x with
    | false =>
      simp only [Bool.false_eq_true, if_false]
      exact ⟨h.wel, h.chain, by rw [lastP_snoc, hp]; rfl, (strip_id w2 hp).symm⟩
    | true =>
      simp only [if_true]
      have hx : x.k = 3 ∧ x.A = [] := by
        unfold plainR at hp
        simpa using hp
      have hl : lastP F = true := by
        rcases List.eq_nil_or_concat F with rfl | ⟨G, y, rfl⟩
        · rfl
        · rw [List.concat_eq_append] at *
          have := h.chain
          rw [chain_snoc, Bool.and_eq_true] at this
          have ha := this.2
          rw [lastP_snoc]
          cases hq : plainR y with
          | false => rfl
          | true =>
            exfalso
            have hy : y.k = 3 ∧ y.A = [] := by unfold plainR at hq; simpa using hq
            unfold apartB at ha
            rw [if_neg (by omega), if_neg (by omega), hy.2, hx.2] at ha
            simp at ha
      refine ⟨w1, chain_front h.chain, hl, ?_⟩
      rw [units_append, units_one, unitsO_3 hx.1, hx.2, strip_plain rfl]
      exact (strip_can w1 hl).symm
/-- **What the canonical list is: its neighbours are apart, no plain retain ends it, and its units are those of the operations, put in order.** -/
theorem canon_spec {E : List Op5} (h : ∀ o ∈ E, Wel o) : (∀ o ∈ canonL E, Wel o) ∧ chainB (canonL E) = true ∧ lastP (canonL E) = true ∧ units (canonL E) = stripU (nrm [] 0 (units E)) := by
  have r := run_of h
  obtain ⟨f1, f2⟩ := flush_chn (g := (runC E).2.2) r.out r.gap
  obtain ⟨t1, t2, t3, t4⟩ := trim_chn f1
  refine ⟨t1, t2, t3, ?_⟩
  have e := r.same []
  rw [List.append_nil] at e
  show units (trimL _) = _
  rw [t4, f2, e]; rfl
theorem canon_unique {E F : List Op5} (h : ∀ o ∈ E, Wel o) (hF : ∀ o ∈ F, Wel o) (hc : chainB F = true) (e : units F = stripU (nrm [] 0 (units E))) : canonL E = F := by
  obtain ⟨t1, t2, t3, t4⟩ := canon_spec h
  exact units_inj t1 hF t2 hc (by rw [t4, e])
theorem nrm_chain : ∀ {F : List Op5} (I : List U6), (∀ o ∈ F, Wel o) → chainB F = true → nrm I 0 (units F) = I ++ units F
  | [], I, _, _ => by show I ++ [] = _; rfl
  | o :: r, I, hF, hc => by
    have ho := hF o (List.mem_cons_self ..)
    have ih := fun J => nrm_chain (F := r) J (fun x hx => hF x (List.mem_cons_of_mem _ hx)) (chain_tail hc)
    show nrm I 0 (unitsO o ++ units r) = I ++ (unitsO o ++ units r)
    rcases ho.kinds with hk | hk | hk | hk
    · rw [unitsO_1 (Or.inl hk), nrm_ins, ih, List.append_assoc]
    · rw [unitsO_1 (Or.inr hk), nrm_ins, ih, List.append_assoc]
    · have := ho.count (Or.inl hk)
      rw [unitsO_3 hk, nrm_keep _ _ (by omega), ih]
      simp
    · rw [unitsO_4 hk, nrm_del]
      cases r with
      | nil => show I ++ List.replicate (0 + o.c.toNat) U6.del = I ++ (_ ++ []); rw [Nat.zero_add, List.append_nil]
      | cons y s =>
        have hy := hF y (by simp)
        rw [chainB, Bool.and_eq_true] at hc
        have ha := hc.1
        unfold apartB at ha
        rw [if_pos hk] at ha
        have hk3 : y.k = 3 := by simpa using ha
        have := hy.count (Or.inl hk3)
        have ih2 := nrm_chain (F := s) [] (fun x hx => hF x (by simp [hx])) (chain_tail hc.2)
        show nrm I _ (unitsO y ++ units s) = _ ++ (_ ++ (unitsO y ++ units s))
        rw [unitsO_3 hk3, nrm_keep _ _ (by omega), ih2, Nat.zero_add]
        simp
/-- A canonical list is its own. -/
theorem canon_self {F : List Op5} (hF : ∀ o ∈ F, Wel o) (hc : chainB F = true) (hl : lastP F = true) : canonL F = F :=
  canon_unique hF hF hc (by rw [nrm_chain [] hF hc, List.nil_append, strip_can hF hl])
end Go.Proofs.YtfllomfjhkgaoaaGreatDoor

/- Deltas unit by unit: their edits of cells; their lengths. -/
namespace Go.Proofs.YtfllomfjhkgaoaaGreatDoor
open Go Go.RowKit Go.Lib
set_option linter.unusedVariables false

/-- A cell with a patch. -/
def patC (c : C5) (A : List A2) : C5 := (c.1, c.2.1, c.2.2.1, jn (chC false) c.2.2.2 A)
theorem patC_nil {c : C5} (h : listE false none c.2.2.2 = 0) : patC c [] = c := by
  obtain ⟨a, b, d, e⟩ := c
  show (a, b, d, jn (chC false) e []) = _
  rw [comp_nil h]
/-- Units done to cells: what comes of the cells that they reach, and those behind. -/
def runU : List U6 → List C5 → Option (List C5 × List C5)
  | [], cs => some ([], cs)
  | .ins c :: u, cs => (runU u cs).map fun x => (c :: x.1, x.2)
  | .keep A :: u, c :: cs => (runU u cs).map fun x => (patC c A :: x.1, x.2)
  | .keep _ :: _, [] => none
  | .del :: u, _ :: cs => runU u cs
  | .del :: _, [] => none
/-- Cells, edited; none: there are too few. -/
def edit (U : List U6) (cs : List C5) : Option (List C5) := (runU U cs).map fun x => x.1 ++ x.2
theorem run_append : ∀ (U V : List U6) (cs : List C5), runU (U ++ V) cs = (runU U cs).bind fun x => (runU V x.2).map fun y => (x.1 ++ y.1, y.2)
  | [], V, cs => by
    show runU V cs = (runU V cs).map fun y => ([] ++ y.1, y.2)
    simp
  | .ins c :: u, V, cs => by
    show (runU (u ++ V) cs).map _ = ((runU u cs).map _).bind _
    rw [run_append u V cs]
    cases runU u cs with
    | none => rfl
    | some x => simp [Option.map_map, Function.comp_def]
  | .keep A :: u, V, [] => rfl
  | .keep A :: u, V, c :: cs => by
    show (runU (u ++ V) cs).map _ = ((runU u cs).map _).bind _
    rw [run_append u V cs]
    cases runU u cs with
    | none => rfl
    | some x => simp [Option.map_map, Function.comp_def]
  | .del :: u, V, [] => rfl
  | .del :: u, V, c :: cs => run_append u V cs
theorem run_ins : ∀ (l cs : List C5), runU (l.map U6.ins) cs = some (l, cs)
  | [], cs => rfl
  | c :: l, cs => by
    show (runU (l.map U6.ins) cs).map _ = _
    rw [run_ins l cs]; rfl
theorem run_dels : ∀ (n : Nat) (cs : List C5), runU (List.replicate n .del) cs = if n ≤ cs.length then some ([], cs.drop n) else none
  | 0, cs => by rw [if_pos (Nat.zero_le _)]; rfl
  | n + 1, [] => by rw [if_neg (by simp)]; rfl
  | n + 1, c :: cs => by
    rw [List.replicate_succ]
    show runU (List.replicate n .del) cs = _
    rw [run_dels n cs]
    simp
theorem run_congr {V W : List U6} (h : ∀ cs, runU V cs = runU W cs) (U : List U6) (cs : List C5) : runU (U ++ V) cs = runU (U ++ W) cs := by
  rw [run_append, run_append]
  congr 1
  funext x
  rw [h]
/-- What comes and what goes in one gap may be told in any order. -/
theorem run_swap (l : List C5) (n : Nat) (V : List U6) (cs : List C5) : runU (List.replicate n .del ++ (l.map .ins ++ V)) cs = runU (l.map .ins ++ (List.replicate n .del ++ V)) cs := by
  rw [run_append, run_append, run_ins, run_dels]
  simp only [Option.bind_some]
  rw [run_append, run_dels]
  split
  · simp only [Option.bind_some]
    rw [run_append, run_ins]
    simp [Option.map_map, Function.comp_def]
  · rfl
theorem run_nrm : ∀ (U : List U6) (l : List C5) (d : Nat) (cs : List C5), runU (nrm (l.map .ins) d U) cs = runU (l.map .ins ++ (List.replicate d .del ++ U)) cs
  | [], l, d, cs => by rw [nrm, List.append_nil]
  | .keep A :: r, l, d, cs => by
    rw [nrm]
    refine run_congr (fun cs => run_congr (fun cs => ?_) _ cs) _ cs
    have := fun cs => run_nrm r [] 0 cs
    exact run_congr (V := nrm [] 0 r) (W := r) this [U6.keep A] cs
  | .del :: r, l, d, cs => by
    rw [nrm, run_nrm r l (d + 1) cs, List.replicate_succ', List.append_assoc]; rfl
  | .ins c :: r, l, d, cs => by
    rw [nrm, show l.map U6.ins ++ [.ins c] = (l ++ [c]).map U6.ins by simp, run_nrm r (l ++ [c]) d cs]
    rw [List.map_append, List.append_assoc]
    refine run_congr (fun cs => ?_) _ cs
    exact (run_swap [c] d r cs).symm
theorem run_rest : ∀ (U : List U6) (cs : List C5) (o r : List C5), runU U cs = some (o, r) → ∀ c ∈ r, c ∈ cs
  | [], cs, o, r, h => by
    obtain ⟨-, rfl⟩ := Prod.mk.inj (Option.some.inj h)
    exact fun c hc => hc
  | .ins c :: u, cs, o, r, h => by
    obtain ⟨x, hx, he⟩ := Option.map_eq_some_iff.1 (show (runU u cs).map _ = _ from h)
    obtain ⟨-, rfl⟩ := Prod.mk.inj he
    exact run_rest u cs x.1 x.2 hx
  | .keep A :: u, [], o, r, h => by cases h
  | .keep A :: u, c :: cs, o, r, h => by
    obtain ⟨x, hx, he⟩ := Option.map_eq_some_iff.1 (show (runU u cs).map _ = _ from h)
    obtain ⟨-, rfl⟩ := Prod.mk.inj he
    exact fun c hc => List.mem_cons_of_mem _ (run_rest u cs x.1 x.2 hx c hc)
  | .del :: u, [], o, r, h => by cases h
  | .del :: u, c :: cs, o, r, h => fun c hc => List.mem_cons_of_mem _ (run_rest u cs o r h c hc)
/-- Cells whose attributes are sets. -/
def SetC (cs : List C5) : Prop := ∀ c ∈ cs, listE false none c.2.2.2 = 0
theorem edit_snoc {U : List U6} {u : U6} {cs xs : List C5} (hs : SetC cs) (hp : plainU u = true) (h : edit (U ++ [u]) cs = some xs) : edit U cs = some xs := by
  cases u with
  | ins c => cases hp
  | del => cases hp
  | keep A =>
    obtain rfl : A = [] := by simpa [plainU] using hp
    unfold edit at h ⊢
    rw [run_append] at h
    cases hU : runU U cs with
    | none => rw [hU] at h; cases h
    | some x =>
      rw [hU] at h
      simp only [Option.bind_some] at h
      obtain ⟨o, r⟩ := x
      cases r with
      | nil => cases h
      | cons c r =>
        have hc := hs c (run_rest U cs o _ hU c (List.mem_cons_self ..))
        simp only [runU, Option.map_some, patC_nil hc, Option.some.injEq] at h ⊢
        rw [← h]; simp
theorem mem_tw {p : U6 → Bool} {u : U6} : ∀ {l : List U6}, u ∈ l.takeWhile p → p u = true
  | [], h => by cases h
  | x :: l, h => by
    rw [List.takeWhile_cons] at h
    split at h
    · rename_i hx
      rcases List.mem_cons.1 h with rfl | h
      · exact hx
      · exact mem_tw h
    · cases h
theorem strip_cut : ∀ U : List U6, ∃ V, U = stripU U ++ V ∧ ∀ u ∈ V, plainU u = true := fun U => by
  refine ⟨(U.reverse.takeWhile plainU).reverse, ?_, fun u hu => ?_⟩
  · unfold stripU
    rw [← List.reverse_append, List.takeWhile_append_dropWhile, List.reverse_reverse]
  · exact mem_tw (List.mem_reverse.1 hu)
theorem edit_strip {U : List U6} {cs xs : List C5} (hs : SetC cs) (h : edit U cs = some xs) : edit (stripU U) cs = some xs := by
  obtain ⟨V, h1, h2⟩ := strip_cut U
  have aux : ∀ (V W : List U6), (∀ u ∈ V, plainU u = true) → edit (W ++ V) cs = some xs → edit W cs = some xs := fun V => by
    induction V with
    | nil => intro W _ h; simpa using h
    | cons u V ih =>
      intro W hV h
      refine edit_snoc hs (hV u (List.mem_cons_self ..)) (ih (W ++ [u]) (fun v hv => hV v (List.mem_cons_of_mem _ hv)) (by rw [List.append_assoc]; exact h))
  exact aux V _ h2 (by rw [← h1]; exact h)
/-- **The canonical list does what the operations do.** -/
theorem edit_canon {E : List Op5} (hE : ∀ o ∈ E, Wel o) {cs xs : List C5} (hs : SetC cs) (h : edit (units E) cs = some xs) : edit (units (canonL E)) cs = some xs := by
  rw [(canon_spec hE).2.2.2]
  refine edit_strip hs ?_
  have := run_nrm (units E) [] 0 cs
  unfold edit at h ⊢
  rw [show nrm [] 0 (units E) = nrm (([] : List C5).map .ins) 0 (units E) from rfl, this]
  exact h

/-! Lengths. -/
def baseU (U : List U6) : Nat := U.countP fun u => match u with | .ins _ => false | _ => true
def resU (U : List U6) : Nat := U.countP fun u => match u with | .del => false | _ => true
def sumB (E : List Op5) : Int := (E.map baseO).sum
def sumR (E : List Op5) : Int := (E.map resO).sum
theorem len5_units {o : Op5} (h : Wel o) : len5 o = ((unitsO o).length : Int) := by
  unfold len5
  rcases h.kinds with hk | hk | hk | hk
  · rw [if_pos (Or.inl hk), unitsO_1 (Or.inl hk), List.length_map, cellsOf_len]
  · rw [if_pos (Or.inr hk), unitsO_1 (Or.inr hk), List.length_map, cellsOf_len]
  · have := h.count (Or.inl hk)
    rw [if_neg (by omega), unitsO_3 hk, List.length_replicate]; omega
  · have := h.count (Or.inr hk)
    rw [if_neg (by omega), unitsO_4 hk, List.length_replicate]; omega
theorem countP_all {p : U6 → Bool} {U : List U6} (h : ∀ u ∈ U, p u = true) : U.countP p = U.length := by
  rw [List.countP_eq_length]; exact h
theorem countP_none {p : U6 → Bool} {U : List U6} (h : ∀ u ∈ U, p u = false) : U.countP p = 0 := by
  rw [List.countP_eq_zero]; intro u hu; rw [h u hu]; simp
theorem base_units {o : Op5} (h : Wel o) : baseO o = (baseU (unitsO o) : Int) := by
  unfold baseO baseU
  rcases h.kinds with hk | hk | hk | hk
  · rw [if_neg (by omega), countP_none]; rfl
    intro u hu
    rcases unit_cases h hu with ⟨_, r, rfl⟩ | ⟨_, rfl⟩ | ⟨h2, _⟩ | ⟨h2, _⟩ <;> first | rfl | omega
  · rw [if_neg (by omega), countP_none]; rfl
    intro u hu
    rcases unit_cases h hu with ⟨_, r, rfl⟩ | ⟨_, rfl⟩ | ⟨h2, _⟩ | ⟨h2, _⟩ <;> first | rfl | omega
  · rw [if_pos (Or.inl hk), countP_all, len5_units h]
    intro u hu
    rcases unit_cases h hu with ⟨h2, _⟩ | ⟨h2, _⟩ | ⟨_, rfl⟩ | ⟨_, rfl⟩ <;> first | rfl | omega
  · rw [if_pos (Or.inr hk), countP_all, len5_units h]
    intro u hu
    rcases unit_cases h hu with ⟨h2, _⟩ | ⟨h2, _⟩ | ⟨_, rfl⟩ | ⟨_, rfl⟩ <;> first | rfl | omega
theorem res_units {o : Op5} (h : Wel o) : resO o = (resU (unitsO o) : Int) := by
  unfold resO resU
  rcases h.kinds with hk | hk | hk | hk
  · rw [if_neg (by omega), countP_all, len5_units h]
    intro u hu
    rcases unit_cases h hu with ⟨_, r, rfl⟩ | ⟨_, rfl⟩ | ⟨h2, _⟩ | ⟨h2, _⟩ <;> first | rfl | omega
  · rw [if_neg (by omega), countP_all, len5_units h]
    intro u hu
    rcases unit_cases h hu with ⟨_, r, rfl⟩ | ⟨_, rfl⟩ | ⟨h2, _⟩ | ⟨h2, _⟩ <;> first | rfl | omega
  · rw [if_neg (by omega), countP_all, len5_units h]
    intro u hu
    rcases unit_cases h hu with ⟨h2, _⟩ | ⟨h2, _⟩ | ⟨_, rfl⟩ | ⟨h2, rfl⟩ <;> first | rfl | omega
  · rw [if_pos hk, countP_none]; rfl
    intro u hu
    rcases unit_cases h hu with ⟨h2, _⟩ | ⟨h2, _⟩ | ⟨h2, rfl⟩ | ⟨_, rfl⟩ <;> first | rfl | omega
theorem sumB_units : ∀ {E : List Op5}, (∀ o ∈ E, Wel o) → sumB E = (baseU (units E) : Int)
  | [], _ => rfl
  | o :: r, h => by
    show baseO o + sumB r = ((unitsO o ++ units r).countP _ : Nat)
    rw [List.countP_append, base_units (h o (List.mem_cons_self ..)), sumB_units fun x hx => h x (List.mem_cons_of_mem _ hx)]
    simp [baseU]
theorem sumR_units : ∀ {E : List Op5}, (∀ o ∈ E, Wel o) → sumR E = (resU (units E) : Int)
  | [], _ => rfl
  | o :: r, h => by
    show resO o + sumR r = ((unitsO o ++ units r).countP _ : Nat)
    rw [List.countP_append, res_units (h o (List.mem_cons_self ..)), sumR_units fun x hx => h x (List.mem_cons_of_mem _ hx)]
    simp [resU]
theorem nrm_perm : ∀ (U I : List U6) (d : Nat), (nrm I d U).Perm (I ++ (List.replicate d .del ++ U))
  | [], I, d => by rw [nrm, List.append_nil]
  | .keep A :: r, I, d => by
    rw [nrm]
    refine List.Perm.append_left _ (List.Perm.append_left _ (List.Perm.cons _ ?_))
    exact nrm_perm r [] 0
  | .del :: r, I, d => by
    rw [nrm]
    refine (nrm_perm r I (d + 1)).trans ?_
    rw [List.replicate_succ', List.append_assoc]; exact List.Perm.refl _
  | .ins c :: r, I, d => by
    rw [nrm]
    refine (nrm_perm r (I ++ [.ins c]) d).trans ?_
    rw [List.append_assoc]
    exact List.Perm.append_left _ (show (U6.ins c :: (List.replicate d U6.del ++ r)).Perm (List.replicate d U6.del ++ U6.ins c :: r) from List.perm_middle.symm)
theorem strip_count (p : U6 → Bool) (U : List U6) : (stripU U).countP p ≤ U.countP p := by
  obtain ⟨V, h1, _⟩ := strip_cut U
  conv => rhs; rw [h1]
  rw [List.countP_append]
  omega
/-- The canonical list is no longer than the operations. -/
theorem canon_sums {E : List Op5} (h : ∀ o ∈ E, Wel o) : sumB (canonL E) ≤ sumB E ∧ sumR (canonL E) ≤ sumR E := by
  obtain ⟨t1, _, _, t4⟩ := canon_spec h
  rw [sumB_units t1, sumR_units t1, sumB_units h, sumR_units h, t4]
  have hp := nrm_perm (units E) [] 0
  have e1 : baseU (nrm [] 0 (units E)) = baseU (units E) := hp.countP_eq _
  have e2 : resU (nrm [] 0 (units E)) = resU (units E) := hp.countP_eq _
  have s1 : baseU (stripU (nrm [] 0 (units E))) ≤ _ := strip_count _ _
  have s2 : resU (stripU (nrm [] 0 (units E))) ≤ _ := strip_count _ _
  have s1 : baseU (stripU (nrm [] 0 (units E))) ≤ baseU (nrm [] 0 (units E)) := s1
  have s2 : resU (stripU (nrm [] 0 (units E))) ≤ resU (nrm [] 0 (units E)) := s2
  omega
theorem base_nn {o : Op5} (h : Wel o) : 0 ≤ baseO o := by rw [base_units h]; omega
theorem res_nn {o : Op5} (h : Wel o) : 0 ≤ resO o := by rw [res_units h]; omega
theorem sums_nn : ∀ {E : List Op5}, (∀ o ∈ E, Wel o) → 0 ≤ sumB E ∧ 0 ≤ sumR E := fun {E} h => by rw [sumB_units h, sumR_units h]; omega
theorem sumL_ok : ∀ {E : List Op5} {b r : Int}, (∀ o ∈ E, Wel o) → (b + sumB E ≤ 1099511627776 ∧ r + sumR E ≤ 1099511627776) → sumL b r E = (b + sumB E, r + sumR E, 0)
  | [], b, r, _, _ => by rw [sumL]; simp [sumB, sumR]
  | o :: E, b, r, h, hl => by
    have ho := h o (List.mem_cons_self ..)
    have hE : ∀ x ∈ E, Wel x := fun x hx => h x (List.mem_cons_of_mem _ hx)
    have n := sums_nn hE
    have e1 : sumB (o :: E) = baseO o + sumB E := rfl
    have e2 : sumR (o :: E) = resO o + sumR E := rfl
    rw [e1, e2] at hl ⊢
    rw [sumL, if_neg (by omega), sumL_ok hE (by omega)]
    congr 1
    · omega
    · congr 1; omega
theorem sumL_bad : ∀ {E : List Op5} {b r : Int}, (∀ o ∈ E, Wel o) → (sumL b r E).2.2 = 0 → b ≤ 1099511627776 → r ≤ 1099511627776 → b + sumB E ≤ 1099511627776 ∧ r + sumR E ≤ 1099511627776
  | [], b, r, _, _, hb, hr => by simpa [sumB, sumR] using ⟨hb, hr⟩
  | o :: E, b, r, h, hz, hb, hr => by
    have hE : ∀ x ∈ E, Wel x := fun x hx => h x (List.mem_cons_of_mem _ hx)
    have e1 : sumB (o :: E) = baseO o + sumB E := rfl
    have e2 : sumR (o :: E) = resO o + sumR E := rfl
    rw [sumL] at hz
    split at hz
    · cases hz
    · have := sumL_bad hE hz (by omega) (by omega)
      rw [e1, e2]; omega
theorem mem_sums : ∀ {E : List Op5} {o : Op5}, (∀ x ∈ E, Wel x) → o ∈ E → baseO o ≤ sumB E ∧ resO o ≤ sumR E
  | x :: E, o, h, ho => by
    have hE : ∀ y ∈ E, Wel y := fun y hy => h y (List.mem_cons_of_mem _ hy)
    have n := sums_nn hE
    have hx := h x (List.mem_cons_self ..)
    have n1 := base_nn hx
    have n2 := res_nn hx
    have e1 : sumB (x :: E) = baseO x + sumB E := rfl
    have e2 : sumR (x :: E) = resO x + sumR E := rfl
    rw [e1, e2]
    rcases List.mem_cons.1 ho with rfl | ho
    · omega
    · have := mem_sums hE ho
      omega
theorem wel_good {E : List Op5} (h : ∀ o ∈ E, Wel o) (hb : sumB E ≤ 1099511627776) : ∀ o ∈ E, opE o = 0 := fun o ho => by
  refine (h o ho).good ?_
  have hw := h o ho
  have m := (mem_sums h ho).1
  rcases hw.kinds with hk | hk | hk | hk
  · obtain ⟨i, _⟩ := hw.resolve_right (by rintro (h | h) <;> omega)
    rw [i.count]; decide
  · obtain ⟨i, _⟩ := hw.resolve_right (by rintro (h | h) <;> omega)
    rw [i.count]; decide
  · unfold baseO len5 at m
    rw [if_pos (Or.inl hk), if_neg (by omega)] at m
    omega
  · unfold baseO len5 at m
    rw [if_pos (Or.inr hk), if_neg (by omega)] at m
    omega
/-- **The canonical list is canonical.** -/
theorem canon_canon {E : List Op5} (h : ∀ o ∈ E, Wel o) (hb : sumB E ≤ 1099511627776) (hr : sumR E ≤ 1099511627776) : canonB (canonL E) = true := by
  obtain ⟨t1, t2, t3, _⟩ := canon_spec h
  obtain ⟨s1, s2⟩ := canon_sums h
  unfold canonB
  rw [t2, t3, Bool.and_true, Bool.and_true]
  refine decide_eq_true ((lens_cases _).2 ⟨bad_zero.2 (wel_good t1 (by omega)), ?_⟩)
  rw [sumL_ok t1 (by omega)]
/-- Is a list canonical? By its parts. -/
theorem canonB_iff {E : List Op5} : canonB E = true ↔ (∀ o ∈ E, Wel o) ∧ sumB E ≤ 1099511627776 ∧ sumR E ≤ 1099511627776 ∧ chainB E = true ∧ lastP E = true := by
  unfold canonB
  rw [Bool.and_eq_true, Bool.and_eq_true, decide_eq_true_iff, lens_cases]
  constructor
  · rintro ⟨⟨⟨h1, h2⟩, h3⟩, h4⟩
    have hw : ∀ o ∈ E, Wel o := fun o ho => wel_of (bad_zero.1 h1 o ho)
    have := sumL_bad hw h2 (by decide) (by decide)
    exact ⟨hw, by omega, by omega, h3, h4⟩
  · rintro ⟨h1, h2, h3, h4, h5⟩
    refine ⟨⟨⟨bad_zero.2 (wel_good h1 h2), ?_⟩, h4⟩, h5⟩
    rw [sumL_ok h1 (by omega)]
end Go.Proofs.YtfllomfjhkgaoaaGreatDoor

/- The builder as plain data: its pieces, how many cells go behind them; what it ends in is the canonical list. -/
namespace Go.Proofs.YtfllomfjhkgaoaaGreatDoor
open Go Go.RowKit Go.Lib
set_option linter.unusedVariables false

/-- The pieces, what is deleted behind them put there. -/
def setB (s : List Op5 × Int) : List Op5 := if 0 < s.2 then s.1 ++ [delO s.2] else s.1
/-- One operation gathered. -/
def stB (s : List Op5 × Int) (o : Op5) : List Op5 × Int :=
  if o.k = 4 then (s.1, s.2 + o.c) else if o.k = 3 then (pushL (setB s) o, 0) else (pushL s.1 o, s.2)
/-- What the builder answers. -/
def finB (s : List Op5 × Int) : List Op5 := if 0 < s.2 then s.1 ++ [delO s.2] else trimL s.1
def bldR (E : List Op5) : List Op5 × Int := E.foldl stB ([], 0)

theorem push_del {P : List Op5} {n : Int} (h : ∀ F x, P = F ++ [x] → x.k ≠ 4) : pushL P (delO n) = P ++ [delO n] := by
  rcases List.eq_nil_or_concat P with rfl | ⟨F, x, rfl⟩
  · rfl
  · rw [List.concat_eq_append] at h ⊢
    exact push_apart (Or.inl (h F x rfl))
/-- What is so of the builder between two operations. -/
structure BSt (s : List Op5 × Int) : Prop where
  chn : Chn s.1 (fun k => k ≠ 4)
  gone : 0 ≤ s.2
theorem BSt.nil : BSt ([], 0) := ⟨⟨fun o ho => (by cases ho), rfl, fun F x e => (by simp at e)⟩, Int.le_refl 0⟩
theorem setB_flush {s : List Op5 × Int} (h : BSt s) : setB s = flushL s.1 [] s.2 := by
  unfold setB flushL
  split
  · exact (push_del fun F x e => h.chn.last F x e).symm
  · rfl
theorem setB_chn {s : List Op5 × Int} (h : BSt s) : Chn (setB s) (fun _ => True) ∧ units (setB s) = units s.1 ++ List.replicate s.2.toNat .del := by
  unfold setB
  split
  · rename_i h0
    obtain ⟨q1, q2⟩ := push_chn h.chn (delO_wel h0) (fun k h4 e => absurd e h4)
    rw [push_del fun F x e => h.chn.last F x e] at q1 q2
    refine ⟨⟨q1.wel, q1.chain, fun _ _ _ => trivial⟩, ?_⟩
    rw [q2, unitsO_4 (show (delO s.2).k = 4 from rfl)]; rfl
  · rename_i h0
    refine ⟨⟨h.chn.wel, h.chn.chain, fun _ _ _ => trivial⟩, ?_⟩
    rw [show s.2.toNat = 0 by omega]; simp
theorem stB_st {s : List Op5 × Int} {o : Op5} (h : BSt s) (ho : Wel o) : BSt (stB s o) := by
  unfold stB
  rcases ho.kinds with hk | hk | hk | hk
  · rw [if_neg (by omega), if_neg (by omega)]
    obtain ⟨p1, _⟩ := push_chn h.chn ho (fun k h4 e => absurd e h4)
    exact ⟨⟨p1.wel, p1.chain, fun F x e => by have := p1.last F x e; omega⟩, h.gone⟩
  · rw [if_neg (by omega), if_neg (by omega)]
    obtain ⟨p1, _⟩ := push_chn h.chn ho (fun k h4 e => absurd e h4)
    exact ⟨⟨p1.wel, p1.chain, fun F x e => by have := p1.last F x e; omega⟩, h.gone⟩
  · rw [if_neg (by omega), if_pos hk]
    obtain ⟨p1, _⟩ := push_chn (setB_chn h).1 ho (fun k _ _ => Or.inl hk)
    exact ⟨⟨p1.wel, p1.chain, fun F x e => by have := p1.last F x e; omega⟩, Int.le_refl 0⟩
  · rw [if_pos hk]
    have := ho.count (Or.inr hk)
    exact ⟨h.chn, by have := h.gone; show 0 ≤ s.2 + o.c; omega⟩
theorem bldR_st {E : List Op5} : ∀ {s : List Op5 × Int}, BSt s → (∀ o ∈ E, Wel o) → BSt (E.foldl stB s) := by
  induction E with
  | nil => intro s h _; exact h
  | cons o r ih => intro s h hE; exact ih (stB_st h (hE o (List.mem_cons_self ..))) (fun x hx => hE x (List.mem_cons_of_mem _ hx))

/-- The reference's state and the builder's. -/
def mirB (c : List Op5 × List Op5 × Int) : List Op5 × Int := (c.2.1.foldl pushL c.1, c.2.2)
theorem mir_flush {c : List Op5 × List Op5 × Int} (h : BSt (mirB c)) : flushL c.1 c.2.1 c.2.2 = setB (mirB c) := by
  unfold flushL setB mirB at *
  split
  · exact push_del fun F x e => h.chn.last F x e
  · rfl
theorem mir_step {c : List Op5 × List Op5 × Int} {o : Op5} (h : BSt (mirB c)) (ho : Wel o) : mirB (stepC c o) = stB (mirB c) o := by
  unfold stepC stB
  rcases ho.kinds with hk | hk | hk | hk
  · rw [if_pos (Or.inl hk), if_neg (by omega), if_neg (by omega)]
    simp [mirB, List.foldl_append]
  · rw [if_pos (Or.inr hk), if_neg (by omega), if_neg (by omega)]
    simp [mirB, List.foldl_append]
  · rw [if_neg (by omega), if_neg (by omega), if_neg (by omega), if_pos hk, mir_flush h]; rfl
  · rw [if_neg (by omega), if_pos hk, if_pos hk]; rfl
theorem mir_run : ∀ (E : List Op5) (c : List Op5 × List Op5 × Int), BSt (mirB c) → (∀ o ∈ E, Wel o) → mirB (E.foldl stepC c) = E.foldl stB (mirB c)
  | [], c, _, _ => rfl
  | o :: r, c, h, hE => by
    have ho := hE o (List.mem_cons_self ..)
    have e := mir_step h ho
    show mirB (r.foldl stepC (stepC c o)) = r.foldl stB (stB (mirB c) o)
    rw [mir_run r (stepC c o) (by rw [e]; exact stB_st h ho) (fun x hx => hE x (List.mem_cons_of_mem _ hx)), e]
theorem trim_del (P : List Op5) (n : Int) : trimL (P ++ [delO n]) = P ++ [delO n] := by
  unfold trimL
  rw [List.getLast?_concat]
  simp only [show plainR (delO n) = false from rfl]
  rfl
/-- What the builder answers is the canonical list. -/
theorem finB_canon {E : List Op5} (h : ∀ o ∈ E, Wel o) : finB (bldR E) = canonL E := by
  have e : mirB (runC E) = bldR E := mir_run E ([], [], 0) BSt.nil h
  have hs : BSt (bldR E) := bldR_st BSt.nil h
  unfold canonL
  rw [mir_flush (by rw [e]; exact hs), e]
  unfold finB setB
  split
  · rw [trim_del]
  · rfl
theorem bldR_snoc (E : List Op5) (o : Op5) : bldR (E ++ [o]) = stB (bldR E) o := by unfold bldR; rw [List.foldl_append]; rfl
/-- A canonical list gathered again. -/
theorem bldR_wel {E : List Op5} (h : ∀ o ∈ E, Wel o) : ∀ o ∈ (bldR E).1, Wel o := (bldR_st BSt.nil h).chn.wel

/-- How long the texts are. -/
def txtS (E : List Op5) : Nat := (E.map (·.t.size)).sum
theorem txtS_append (E F : List Op5) : txtS (E ++ F) = txtS E + txtS F := by unfold txtS; rw [List.map_append, List.sum_append]
theorem txtS_one (o : Op5) : txtS [o] = o.t.size := by simp [txtS]
theorem txtS_mem {E : List Op5} {o : Op5} (h : o ∈ E) : o.t.size ≤ txtS E := by
  induction E with
  | nil => cases h
  | cons x r ih =>
    have e : txtS (x :: r) = x.t.size + txtS r := by simp [txtS]
    rcases List.mem_cons.1 h with rfl | h
    · omega
    · have := ih h; omega
/-- An operation but for its text isn't too great. -/
structure FitA (o : Op5) : Prop where
  v : o.v.2.2.size ≤ 1048576
  A : ∀ q ∈ o.A, q.1.size ≤ 1048576 ∧ q.2.2.2.size ≤ 1048576
  n : o.A.length ≤ 1048576
theorem Fit.fitA {o : Op5} (h : Fit o) : FitA o := ⟨h.v, h.A, h.n⟩
theorem FitA.fit {o : Op5} (h : FitA o) (ht : o.t.size ≤ 8388608) : Fit o := ⟨ht, h.v, h.A, h.n⟩
theorem fitA_all {E : List Op5} (h : ∀ o ∈ E, FitA o) (ht : txtS E ≤ 8388608) : FitL E := fun o ho => (h o ho).fit (Nat.le_trans (txtS_mem ho) ht)
theorem delO_fitA (n : Int) : FitA (delO n) := ⟨by show (0 : Nat) ≤ _; omega, fun q hq => (by cases hq), by show (0 : Nat) ≤ _; omega⟩
theorem push_size (P : List Op5) (o : Op5) : txtS (pushL P o) = txtS P + o.t.size ∧ (pushL P o).length ≤ P.length + 1 := by
  rcases List.eq_nil_or_concat P with rfl | ⟨F, x, rfl⟩
  · rw [push_nil]; simp [txtS]
  · rw [List.concat_eq_append]
    by_cases hj : x.k ≠ o.k ∨ o.k = 2 ∨ x.A ≠ o.A
    · rw [push_apart hj, txtS_append, txtS_one]
      exact ⟨rfl, by rw [List.length_append]; exact Nat.le_refl _⟩
    · rw [push_join hj, txtS_append, txtS_append, txtS_one, txtS_one]
      have hs : (jnO x o).t.size = x.t.size + o.t.size := ByteArray.size_append
      rw [hs]
      exact ⟨by omega, by simp⟩
theorem push_fitA {P : List Op5} {o : Op5} (h : ∀ x ∈ P, FitA x) (ho : FitA o) : ∀ x ∈ pushL P o, FitA x := by
  rcases List.eq_nil_or_concat P with rfl | ⟨F, x, rfl⟩
  · rw [push_nil]; intro y hy; rw [List.mem_singleton.1 hy]; exact ho
  · rw [List.concat_eq_append] at h ⊢
    by_cases hj : x.k ≠ o.k ∨ o.k = 2 ∨ x.A ≠ o.A
    · rw [push_apart hj]
      intro y hy
      rcases List.mem_append.1 hy with hy | hy
      · exact h y hy
      · rw [List.mem_singleton.1 hy]; exact ho
    · rw [push_join hj]
      intro y hy
      rcases List.mem_append.1 hy with hy | hy
      · exact h y (List.mem_append_left _ hy)
      · rw [List.mem_singleton.1 hy]
        have := h x (List.mem_append_right _ (List.mem_singleton.2 rfl))
        exact ⟨this.v, this.A, this.n⟩
/-- The builder's sizes: n operations, texts of N bytes. -/
structure BSz (s : List Op5 × Int) (n N : Nat) : Prop where
  fit : ∀ x ∈ s.1, FitA x
  txt : txtS s.1 ≤ N
  len : s.1.length + (if 0 < s.2 then 1 else 0) ≤ n
theorem BSz.nil : BSz ([], 0) 0 0 := ⟨fun x hx => (by cases hx), Nat.le_refl 0, by simp⟩
theorem BSz.set {s : List Op5 × Int} {n N : Nat} (h : BSz s n N) : (∀ x ∈ setB s, FitA x) ∧ txtS (setB s) ≤ N ∧ (setB s).length ≤ n := by
  have h3 := h.len
  unfold setB
  split
  · rename_i h0
    rw [if_pos h0] at h3
    refine ⟨fun x hx => ?_, ?_, by rw [List.length_append]; exact h3⟩
    · rcases List.mem_append.1 hx with hx | hx
      · exact h.fit x hx
      · rw [List.mem_singleton.1 hx]; exact delO_fitA _
    · rw [txtS_append, txtS_one]
      exact h.txt
  · exact ⟨h.fit, h.txt, by omega⟩
theorem BSz.step {s : List Op5 × Int} {n N : Nat} {o : Op5} (h : BSz s n N) (ho : FitA o) : BSz (stB s o) (n + 1) (N + o.t.size) := by
  have h3 := h.len
  unfold stB
  by_cases h4 : o.k = 4
  · rw [if_pos h4]
    refine ⟨h.fit, by have := h.txt; show txtS s.1 ≤ _; omega, ?_⟩
    show s.1.length + (if 0 < s.2 + o.c then 1 else 0) ≤ n + 1
    split <;> omega
  · rw [if_neg h4]
    by_cases h5 : o.k = 3
    · rw [if_pos h5]
      obtain ⟨a, b, c⟩ := h.set
      obtain ⟨d, e⟩ := push_size (setB s) o
      refine ⟨push_fitA a ho, by show txtS (pushL (setB s) o) ≤ _; omega, ?_⟩
      show (pushL (setB s) o).length + (if (0 : Int) < 0 then 1 else 0) ≤ n + 1
      simp only [show ¬ ((0 : Int) < 0) by omega, if_false]; omega
    · rw [if_neg h5]
      obtain ⟨d, e⟩ := push_size s.1 o
      refine ⟨push_fitA h.fit ho, by have := h.txt; show txtS (pushL s.1 o) ≤ _; omega, ?_⟩
      show (pushL s.1 o).length + (if 0 < s.2 then 1 else 0) ≤ n + 1
      omega
theorem bldR_sz : ∀ (E : List Op5) {s : List Op5 × Int} {n N : Nat}, BSz s n N → (∀ o ∈ E, FitA o) → BSz (E.foldl stB s) (n + E.length) (N + txtS E)
  | [], s, n, N, h, _ => h
  | o :: r, s, n, N, h, hE => by
    have := bldR_sz r (h.step (hE o (List.mem_cons_self ..))) (fun x hx => hE x (List.mem_cons_of_mem _ hx))
    have e : txtS (o :: r) = o.t.size + txtS r := by simp [txtS]
    rw [e, List.length_cons, show N + (o.t.size + txtS r) = N + o.t.size + txtS r by omega, show n + (r.length + 1) = n + 1 + r.length by omega]
    exact this
end Go.Proofs.YtfllomfjhkgaoaaGreatDoor

/- build: last, grow, joinText, join: the builder's own parts. -/
namespace Go.Proofs.YtfllomfjhkgaoaaGreatDoor
open Go Go.RowKit Go.Lib
set_option linter.unusedVariables false

theorem last_nil (p : Option Addr) (c : Nat) (w : World) : Calls Tryz.prog 44 #[.slice p 0 c] w fun e w' => e = .returned .nilIface ∧ w' = w := by
  go_enter Tryz.func44, Tryz.ntmps44
  go_wp2
  go_ret
  exact ⟨rfl, rfl⟩
set_option maxHeartbeats 1000000 in
theorem last_one (v : Value) (FL : List Value) (x : Value) (B : Nat) (w : World) (hv : w.ownsRow B 87 1 v (FL ++ [x]).length (FL ++ [x])) (hl : FL.length ≤ 4194304) :
    Calls Tryz.prog 44 #[v] w fun e w' => e = .returned x ∧ w' = w := by
  obtain ⟨g, c, y, rfl, _, hy, hc⟩ := own_cell hv FL.length (by simp)
  have hy' : (FL ++ [x])[FL.length]? = some x := by simp
  obtain rfl : x = y := Option.some.inj (hy'.symm.trans hy)
  obtain ⟨n, hn⟩ : ∃ n, FL.length = n := ⟨_, rfl⟩
  have hn' : (FL ++ [x]).length = n + 1 := by simp [hn]
  rw [hn] at hc hl
  rw [hn']
  clear hv hy hy' hn hn'
  have hz : (((n + 1 : Nat) : Int) == 0) = false := by rw [beq_eq_false_iff_ne]; omega
  have hd : ((n + 1 : Nat) : Int) - 1 = (n : Int) := by omega
  go_enter Tryz.func44, Tryz.ntmps44
  go_wp2
  go_ret
  exact ⟨rfl, rfl⟩

/-- A text as bytes. -/
theorem cat_arr (a b : ByteArray) : (⟨(a.data.toList ++ b.data.toList).toArray⟩ : ByteArray) = a ++ b := by
  apply ByteArray.ext
  simp
set_option maxHeartbeats 2000000 in
set_option maxRecDepth 100000 in
theorem joinText_any (B g : Nat) (c0 c1 c2 c3 : Value) (l : List UInt8) (a b : ByteArray) (w : World) (h : SbE w B g c0 c1 c2 c3 l) (hl : l = [] ∨ l = a.data.toList) (ha : 0 < a.size) (hab : a.size + b.size ≤ 16777216) (hBw : B ≤ w.heap.size) :
    Calls Tryz.prog 97 #[.pointer (some ⟨g, 0, none⟩), .string a, .string b] w fun e w' => e = .returned (.string (a ++ b)) ∧ SbE w' B g c0 c1 c2 c3 (a ++ b).data.toList ∧ FrB B (fun k => k ≠ g) w w' := by
  have cL := sbLen_any B g c0 c1 c2 c3 l w h
  have hcat : (a ++ b).data.toList = a.data.toList ++ b.data.toList := cat_list a b
  have hne : a.data.toList ++ b.data.toList ≠ [] := by
    intro e
    have e2 := congrArg List.length e
    rw [List.length_append, size_toList, size_toList, List.length_nil] at e2
    omega
  have cS : Hid (∀ W, SbE W B g c0 c1 c2 c3 (a.data.toList ++ b.data.toList) → Calls Tryz.prog 107 #[.pointer (some ⟨g, 4, none⟩)] W fun e w' => e = .returned (.string (a ++ b)) ∧ SbE w' B g c0 c1 c2 c3 (a.data.toList ++ b.data.toList) ∧ FrB B (fun k => k ≠ g) W w') := fun W hW => by
    have := sbString_any B g c0 c1 c2 c3 _ W hW hne
    rw [cat_arr] at this
    exact this
  have cW : Hid (∀ W, SbE W B g c0 c1 c2 c3 a.data.toList → B ≤ W.heap.size → Calls Tryz.prog 106 #[.pointer (some ⟨g, 4, none⟩), .string b] W fun e w' => e = .returned (.tuple #[.int .i64 b.size, .nilIface]) ∧ SbE w' B g c0 c1 c2 c3 (a.data.toList ++ b.data.toList) ∧ FrB B (fun k => k ≠ g) W w') := fun W hW hB =>
    sbWrite_any B g c0 c1 c2 c3 a.data.toList b W hW (by rw [size_toList]; omega) hB
  have HC : Hid ((a ++ b).data.toList = a.data.toList ++ b.data.toList) := hcat
  by_cases hz : l = []
  · subst hz
    have c1' : Hid (Calls Tryz.prog 106 #[.pointer (some ⟨g, 4, none⟩), .string a] w fun e w' => e = .returned (.tuple #[.int .i64 a.size, .nilIface]) ∧ SbE w' B g c0 c1 c2 c3 a.data.toList ∧ FrB B (fun k => k ≠ g) w w') := by
      have := sbWrite_any B g c0 c1 c2 c3 [] a w h (by simp only [List.length_nil]; omega) hBw
      rw [List.nil_append] at this
      exact this
    have HB : Hid (B ≤ w.heap.size) := hBw
    clear h hl hne hcat hBw
    go_enter Tryz.func97, Tryz.ntmps97
    go_wp2_with fail
    refine cL.mono ?_; rintro e w1 ⟨rfl, rfl⟩
    go_wp2_with fail
    refine c1'.out.mono ?_; rintro e w2 ⟨rfl, h2, f2⟩
    have c3' := cW.out w2 h2 (Nat.le_trans HB.out f2.below.size)
    have F2 : Hid (FrB B (fun k => k ≠ g) _ w2) := f2
    clear cL c1' h2 f2
    go_wp2_with fail
    refine c3'.mono ?_; rintro e w3 ⟨rfl, h3, f3⟩
    have c4' := cS.out w3 h3
    have F3 : Hid (FrB B (fun k => k ≠ g) _ w3) := F2.out.trans f3
    clear c3' h3 f3 F2
    go_wp2_with fail
    refine c4'.mono ?_; rintro e w4 ⟨rfl, h4, f4⟩
    have F4 : Hid (SbE w4 B g c0 c1 c2 c3 (a ++ b).data.toList ∧ FrB B (fun k => k ≠ g) _ w4) := ⟨by rw [HC.out]; exact h4, F3.out.trans f4⟩
    clear c4' h4 f4 F3
    go_wp2
    go_ret
    exact ⟨rfl, F4.out⟩
  · have hl2 : l = a.data.toList := hl.resolve_left hz
    subst hl2
    have hnz : ((a.data.toList.length : Int) == 0) = false := by rw [beq_eq_false_iff_ne, size_toList]; omega
    have c3' := cW.out w h hBw
    clear h hl hne hcat hz cW
    go_enter Tryz.func97, Tryz.ntmps97
    go_wp2_with fail
    refine cL.mono ?_; rintro e w1 ⟨rfl, rfl⟩
    go_wp2_with fail
    refine c3'.mono ?_; rintro e w3 ⟨rfl, h3, f3⟩
    have c4' := cS.out w3 h3
    have F3 : Hid (FrB B (fun k => k ≠ g) _ w3) := f3
    clear c3' h3 f3 cL
    go_wp2_with fail
    refine c4'.mono ?_; rintro e w4 ⟨rfl, h4, f4⟩
    have F4 : Hid (SbE w4 B g c0 c1 c2 c3 (a ++ b).data.toList ∧ FrB B (fun k => k ≠ g) _ w4) := ⟨by rw [HC.out]; exact h4, F3.out.trans f4⟩
    clear c4' h4 f4 F3
    go_wp2
    go_ret
    exact ⟨rfl, F4.out⟩
end Go.Proofs.YtfllomfjhkgaoaaGreatDoor

/- build: join: the last piece and another as one. -/
namespace Go.Proofs.YtfllomfjhkgaoaaGreatDoor
open Go Go.RowKit Go.Lib
set_option linter.unusedVariables false

/-- May two operations be joined by the builder? -/
def joinsB (x o : Op5) : Prop := x.k = o.k ∧ (o.k = 1 ∨ o.k = 3) ∧ x.A = o.A
instance (x o : Op5) : Decidable (joinsB x o) := by unfold joinsB; infer_instance
theorem push_no {F : List Op5} {x o : Op5} (h : ¬ joinsB x o) (h4 : x.k ≠ 4 ∨ o.k ≠ 4) (hk : o.k = 1 ∨ o.k = 2 ∨ o.k = 3 ∨ o.k = 4) : pushL (F ++ [x]) o = F ++ [x] ++ [o] := by
  refine push_apart ?_
  by_cases h1 : x.k ≠ o.k
  · exact Or.inl h1
  · by_cases h2 : o.k = 2
    · exact Or.inr (Or.inl h2)
    · refine Or.inr (Or.inr fun e => h ⟨by omega, by omega, e⟩)
theorem push_yes {F : List Op5} {x o : Op5} (h : joinsB x o) : pushL (F ++ [x]) o = F ++ [jnO x o] := by
  obtain ⟨h1, h2, h3⟩ := h
  refine push_join ?_
  rintro (e | e | e)
  · exact e h1
  · omega
  · exact e h3
theorem forall2_unappend {α β : Type} {R : α → β → Prop} : ∀ {a c : List α} {b d : List β}, a.length = b.length → All2 R (a ++ c) (b ++ d) → All2 R a b ∧ All2 R c d
  | [], c, [], d, _, h => ⟨.nil, h⟩
  | x :: a, c, y :: b, d, e, h => by
    cases h with
    | cons h1 h2 =>
      obtain ⟨p, q⟩ := forall2_unappend (by simpa using e) h2
      exact ⟨.cons h1 p, q⟩
/-- A row of pieces' last piece. -/
theorem pie_last {w : World} {B : Nat} {PL : List Value} {F : List Op5} {x : Op5} (h : PieD w B PL (F ++ [x])) : ∃ FL s, PL = FL ++ [pieceQ x s] ∧ PieD w B FL F ∧ OwnA w B s x.A := by
  have hl := forall2_len h
  rcases List.eq_nil_or_concat PL with rfl | ⟨FL, y, rfl⟩
  · simp at hl
  · rw [List.concat_eq_append] at h hl ⊢
    have hl' : FL.length = F.length := by simpa using hl
    obtain ⟨h1, h2⟩ := forall2_unappend hl' h
    cases h2 with
    | cons a _ =>
      obtain ⟨s, rfl, hs⟩ := a
      exact ⟨FL, s, rfl, h1, hs⟩

theorem SbE.below {w w' : World} {B g : Nat} {c0 c1 c2 c3 : Value} {l : List UInt8} (h : SbE w B g c0 c1 c2 c3 l) (b : Below w.heap.size w w') : SbE w' B g c0 c1 c2 c3 l := by
  obtain ⟨av, jv, h⟩ := h
  exact ⟨av, jv, h.lo, (b.block g h.lt).trans h.at_, rowF_same h.buf fun k hk => b.block k (h.buf.lt k hk).2, h.adr⟩
theorem SbE.set_other {w : World} {B g : Nat} {c0 c1 c2 c3 : Value} {l : List UInt8} (h : SbE w B g c0 c1 c2 c3 l) {k j : Nat} {cs : Array Value} {T : TypeId} {fz : Nat × Nat} (hk : w.heap[k]? = some (.cells cs T fz)) (h1 : T ≠ 84) (h2 : T ≠ 5) (u : Value) : SbE (w.setCell ⟨k, j, none⟩ u) B g c0 c1 c2 c3 l := by
  obtain ⟨av, jv, h⟩ := h
  refine ⟨av, jv, h.lo, (Below.heap_setCell _ _ _ _ fun e => ?_).trans h.at_, rowF_same h.buf fun i hi => Below.heap_setCell _ _ _ _ fun e => ?_, h.adr⟩
  · obtain rfl : g = k := e
    rw [h.at_] at hk
    simp only [Option.some.injEq, Obj.cells.injEq] at hk
    exact h1 hk.2.1.symm
  · obtain rfl : i = k := e
    obtain ⟨c, fz', hc⟩ := ownsRowF_kind h.buf i hi
    rcases h.buf.2 with ⟨rfl, _⟩ | ⟨g', cap, cur, fz'', rfl, _, hgg, _⟩
    · cases hi
    · simp only [Value.ownBlock, Option.some.injEq] at hi
      obtain rfl : g' = i := hi
      rw [hgg] at hk
      simp only [Option.some.injEq, Obj.cells.injEq] at hk
      exact h2 hk.2.1.symm

set_option maxHeartbeats 4000000 in
set_option maxRecDepth 100000 in
theorem join_nil {B g : Nat} {c0 c1 c3 : Value} {p : Option Addr} {c : Nat} {l : List UInt8} (y : Value) (w : World) (h : SbE w B g c0 c1 (.slice p 0 c) c3 l) :
    Calls Tryz.prog 87 #[.pointer (some ⟨g, 0, none⟩), y] w fun e w' => e = .returned (.tuple #[.nilIface, .bool false]) ∧ Below w.heap.size w w' := by
  obtain ⟨av, jv, h⟩ := h
  have c2 : w.cell? ⟨g, 2, none⟩ = some (.slice p 0 c) := by rw [cell_of_heap h.at_]; rfl
  have cl := last_nil p c w
  have a1 : (Instr.typeAssert .nilIface 87 125 true).run Tryz.prog w = .ok (.tuple #[.agg #[.slice none 0 0, .string ⟨#[]⟩, .int .i64 0], .bool false]) w := by kernel_rfl
  have a2 : (Instr.typeAssert .nilIface 87 117 true).run Tryz.prog w = .ok (.tuple #[.agg #[.slice none 0 0, .int .i64 0], .bool false]) w := by kernel_rfl
  clear h
  go_enter Tryz.func87, Tryz.ntmps87
  go_wp2_with fail
  refine cl.mono ?_; rintro e w1 ⟨rfl, rfl⟩
  clear cl
  go_wp2
  go_ret2
  exact ⟨rfl, Below.refl _ _⟩
set_option maxHeartbeats 4000000 in
set_option maxRecDepth 100000 in
theorem join_no12 {B g : Nat} {c0 c1 pv c3 : Value} {l : List UInt8} (x o : Op5) (s sv : Value) (FL : List Value) (w : World) (h : SbE w B g c0 c1 pv c3 l) (hrow : w.ownsRow B 87 1 pv (FL ++ [pieceQ x s]).length (FL ++ [pieceQ x s])) (hlen : FL.length ≤ 4194304) (hs : ∃ p n c, s = .slice p n c) (hx : x.k = 1) (ho : o.k = 2) :
    Calls Tryz.prog 87 #[.pointer (some ⟨g, 0, none⟩), pieceQ o sv] w fun e w' => e = .returned (.tuple #[.nilIface, .bool false]) ∧ Below w.heap.size w w' := by
  obtain ⟨p1, l1, q1, rfl⟩ := hs
  have cl := last_one pv FL (pieceQ x (.slice p1 l1 q1)) B w hrow hlen
  obtain ⟨p, cap, hpv⟩ := own_slice hrow
  obtain ⟨av, jv, hs0⟩ := h
  have c2 : w.cell? ⟨g, 2, none⟩ = some pv := by rw [cell_of_heap hs0.at_]; rfl
  obtain ⟨nx, hnx⟩ : ∃ z : Int, ((scs x.t.data.toList).length : Int) = z := ⟨_, rfl⟩
  obtain ⟨tx, htx⟩ : ∃ z, x.t = z := ⟨_, rfl⟩
  obtain ⟨Vo, hVo⟩ : ∃ V, valP o.v = V := ⟨_, rfl⟩
  obtain ⟨tO, htO⟩ : ∃ z, o.t = z := ⟨_, rfl⟩
  rw [pieceQ_1 hx, hnx, htx] at cl
  rw [pieceQ_2 ho, hVo, htO]
  clear hs0 hrow hx ho hpv hnx htx hVo htO
  have a0 := as_i_i
  have a1 := as_e_i
  go_enter Tryz.func87, Tryz.ntmps87
  go_wp2_with fail
  refine cl.mono ?_; rintro e w1 ⟨rfl, rfl⟩
  clear cl
  go_wp2
  go_ret2
  exact ⟨rfl, by go_grown⟩
set_option maxHeartbeats 4000000 in
set_option maxRecDepth 100000 in
theorem join_no13 {B g : Nat} {c0 c1 pv c3 : Value} {l : List UInt8} (x o : Op5) (s sv : Value) (FL : List Value) (w : World) (h : SbE w B g c0 c1 pv c3 l) (hrow : w.ownsRow B 87 1 pv (FL ++ [pieceQ x s]).length (FL ++ [pieceQ x s])) (hlen : FL.length ≤ 4194304) (hs : ∃ p n c, s = .slice p n c) (hx : x.k = 1) (ho : o.k = 3) :
    Calls Tryz.prog 87 #[.pointer (some ⟨g, 0, none⟩), pieceQ o sv] w fun e w' => e = .returned (.tuple #[.nilIface, .bool false]) ∧ Below w.heap.size w w' := by
  obtain ⟨p1, l1, q1, rfl⟩ := hs
  have cl := last_one pv FL (pieceQ x (.slice p1 l1 q1)) B w hrow hlen
  obtain ⟨p, cap, hpv⟩ := own_slice hrow
  obtain ⟨av, jv, hs0⟩ := h
  have c2 : w.cell? ⟨g, 2, none⟩ = some pv := by rw [cell_of_heap hs0.at_]; rfl
  obtain ⟨nx, hnx⟩ : ∃ z : Int, ((scs x.t.data.toList).length : Int) = z := ⟨_, rfl⟩
  obtain ⟨tx, htx⟩ : ∃ z, x.t = z := ⟨_, rfl⟩
  obtain ⟨co, hco⟩ : ∃ z, o.c = z := ⟨_, rfl⟩
  rw [pieceQ_1 hx, hnx, htx] at cl
  rw [pieceQ_3 ho, hco]
  clear hs0 hrow hx ho hpv hnx htx hco
  have a0 := as_i_i
  have a1 := as_r_i
  go_enter Tryz.func87, Tryz.ntmps87
  go_wp2_with fail
  refine cl.mono ?_; rintro e w1 ⟨rfl, rfl⟩
  clear cl
  go_wp2
  go_ret2
  exact ⟨rfl, by go_grown⟩
set_option maxHeartbeats 4000000 in
set_option maxRecDepth 100000 in
theorem join_no14 {B g : Nat} {c0 c1 pv c3 : Value} {l : List UInt8} (x o : Op5) (s sv : Value) (FL : List Value) (w : World) (h : SbE w B g c0 c1 pv c3 l) (hrow : w.ownsRow B 87 1 pv (FL ++ [pieceQ x s]).length (FL ++ [pieceQ x s])) (hlen : FL.length ≤ 4194304) (hs : ∃ p n c, s = .slice p n c) (hx : x.k = 1) (ho : o.k = 4) :
    Calls Tryz.prog 87 #[.pointer (some ⟨g, 0, none⟩), pieceQ o sv] w fun e w' => e = .returned (.tuple #[.nilIface, .bool false]) ∧ Below w.heap.size w w' := by
  obtain ⟨p1, l1, q1, rfl⟩ := hs
  have cl := last_one pv FL (pieceQ x (.slice p1 l1 q1)) B w hrow hlen
  obtain ⟨p, cap, hpv⟩ := own_slice hrow
  obtain ⟨av, jv, hs0⟩ := h
  have c2 : w.cell? ⟨g, 2, none⟩ = some pv := by rw [cell_of_heap hs0.at_]; rfl
  obtain ⟨nx, hnx⟩ : ∃ z : Int, ((scs x.t.data.toList).length : Int) = z := ⟨_, rfl⟩
  obtain ⟨tx, htx⟩ : ∃ z, x.t = z := ⟨_, rfl⟩
  obtain ⟨co, hco⟩ : ∃ z, o.c = z := ⟨_, rfl⟩
  rw [pieceQ_1 hx, hnx, htx] at cl
  rw [pieceQ_4 ho, hco]
  clear hs0 hrow hx ho hpv hnx htx hco
  have a0 := as_i_i
  have a1 := as_d_i
  go_enter Tryz.func87, Tryz.ntmps87
  go_wp2_with fail
  refine cl.mono ?_; rintro e w1 ⟨rfl, rfl⟩
  clear cl
  go_wp2
  go_ret2
  exact ⟨rfl, by go_grown⟩
set_option maxHeartbeats 4000000 in
set_option maxRecDepth 100000 in
theorem join_no21 {B g : Nat} {c0 c1 pv c3 : Value} {l : List UInt8} (x o : Op5) (s sv : Value) (FL : List Value) (w : World) (h : SbE w B g c0 c1 pv c3 l) (hrow : w.ownsRow B 87 1 pv (FL ++ [pieceQ x s]).length (FL ++ [pieceQ x s])) (hlen : FL.length ≤ 4194304) (hs : ∃ p n c, s = .slice p n c) (hx : x.k = 2) (ho : o.k = 1) :
    Calls Tryz.prog 87 #[.pointer (some ⟨g, 0, none⟩), pieceQ o sv] w fun e w' => e = .returned (.tuple #[.nilIface, .bool false]) ∧ Below w.heap.size w w' := by
  obtain ⟨p1, l1, q1, rfl⟩ := hs
  have cl := last_one pv FL (pieceQ x (.slice p1 l1 q1)) B w hrow hlen
  obtain ⟨p, cap, hpv⟩ := own_slice hrow
  obtain ⟨av, jv, hs0⟩ := h
  have c2 : w.cell? ⟨g, 2, none⟩ = some pv := by rw [cell_of_heap hs0.at_]; rfl
  obtain ⟨Vx, hVx⟩ : ∃ V, valP x.v = V := ⟨_, rfl⟩
  obtain ⟨tx, htx⟩ : ∃ z, x.t = z := ⟨_, rfl⟩
  obtain ⟨no, hno⟩ : ∃ z : Int, ((scs o.t.data.toList).length : Int) = z := ⟨_, rfl⟩
  obtain ⟨tO, htO⟩ : ∃ z, o.t = z := ⟨_, rfl⟩
  rw [pieceQ_2 hx, hVx, htx] at cl
  rw [pieceQ_1 ho, hno, htO]
  clear hs0 hrow hx ho hpv hVx htx hno htO
  have a0 := as_e_i
  have a1 := as_e_r
  go_enter Tryz.func87, Tryz.ntmps87
  go_wp2_with fail
  refine cl.mono ?_; rintro e w1 ⟨rfl, rfl⟩
  clear cl
  go_wp2
  go_ret2
  exact ⟨rfl, by go_grown⟩
set_option maxHeartbeats 4000000 in
set_option maxRecDepth 100000 in
theorem join_no22 {B g : Nat} {c0 c1 pv c3 : Value} {l : List UInt8} (x o : Op5) (s sv : Value) (FL : List Value) (w : World) (h : SbE w B g c0 c1 pv c3 l) (hrow : w.ownsRow B 87 1 pv (FL ++ [pieceQ x s]).length (FL ++ [pieceQ x s])) (hlen : FL.length ≤ 4194304) (hs : ∃ p n c, s = .slice p n c) (hx : x.k = 2) (ho : o.k = 2) :
    Calls Tryz.prog 87 #[.pointer (some ⟨g, 0, none⟩), pieceQ o sv] w fun e w' => e = .returned (.tuple #[.nilIface, .bool false]) ∧ Below w.heap.size w w' := by
  obtain ⟨p1, l1, q1, rfl⟩ := hs
  have cl := last_one pv FL (pieceQ x (.slice p1 l1 q1)) B w hrow hlen
  obtain ⟨p, cap, hpv⟩ := own_slice hrow
  obtain ⟨av, jv, hs0⟩ := h
  have c2 : w.cell? ⟨g, 2, none⟩ = some pv := by rw [cell_of_heap hs0.at_]; rfl
  obtain ⟨Vx, hVx⟩ : ∃ V, valP x.v = V := ⟨_, rfl⟩
  obtain ⟨tx, htx⟩ : ∃ z, x.t = z := ⟨_, rfl⟩
  obtain ⟨Vo, hVo⟩ : ∃ V, valP o.v = V := ⟨_, rfl⟩
  obtain ⟨tO, htO⟩ : ∃ z, o.t = z := ⟨_, rfl⟩
  rw [pieceQ_2 hx, hVx, htx] at cl
  rw [pieceQ_2 ho, hVo, htO]
  clear hs0 hrow hx ho hpv hVx htx hVo htO
  have a0 := as_e_i
  have a1 := as_e_r
  go_enter Tryz.func87, Tryz.ntmps87
  go_wp2_with fail
  refine cl.mono ?_; rintro e w1 ⟨rfl, rfl⟩
  clear cl
  go_wp2
  go_ret2
  exact ⟨rfl, by go_grown⟩
set_option maxHeartbeats 4000000 in
set_option maxRecDepth 100000 in
theorem join_no23 {B g : Nat} {c0 c1 pv c3 : Value} {l : List UInt8} (x o : Op5) (s sv : Value) (FL : List Value) (w : World) (h : SbE w B g c0 c1 pv c3 l) (hrow : w.ownsRow B 87 1 pv (FL ++ [pieceQ x s]).length (FL ++ [pieceQ x s])) (hlen : FL.length ≤ 4194304) (hs : ∃ p n c, s = .slice p n c) (hx : x.k = 2) (ho : o.k = 3) :
    Calls Tryz.prog 87 #[.pointer (some ⟨g, 0, none⟩), pieceQ o sv] w fun e w' => e = .returned (.tuple #[.nilIface, .bool false]) ∧ Below w.heap.size w w' := by
  obtain ⟨p1, l1, q1, rfl⟩ := hs
  have cl := last_one pv FL (pieceQ x (.slice p1 l1 q1)) B w hrow hlen
  obtain ⟨p, cap, hpv⟩ := own_slice hrow
  obtain ⟨av, jv, hs0⟩ := h
  have c2 : w.cell? ⟨g, 2, none⟩ = some pv := by rw [cell_of_heap hs0.at_]; rfl
  obtain ⟨Vx, hVx⟩ : ∃ V, valP x.v = V := ⟨_, rfl⟩
  obtain ⟨tx, htx⟩ : ∃ z, x.t = z := ⟨_, rfl⟩
  obtain ⟨co, hco⟩ : ∃ z, o.c = z := ⟨_, rfl⟩
  rw [pieceQ_2 hx, hVx, htx] at cl
  rw [pieceQ_3 ho, hco]
  clear hs0 hrow hx ho hpv hVx htx hco
  have a0 := as_e_i
  have a1 := as_e_r
  go_enter Tryz.func87, Tryz.ntmps87
  go_wp2_with fail
  refine cl.mono ?_; rintro e w1 ⟨rfl, rfl⟩
  clear cl
  go_wp2
  go_ret2
  exact ⟨rfl, by go_grown⟩
set_option maxHeartbeats 4000000 in
set_option maxRecDepth 100000 in
theorem join_no24 {B g : Nat} {c0 c1 pv c3 : Value} {l : List UInt8} (x o : Op5) (s sv : Value) (FL : List Value) (w : World) (h : SbE w B g c0 c1 pv c3 l) (hrow : w.ownsRow B 87 1 pv (FL ++ [pieceQ x s]).length (FL ++ [pieceQ x s])) (hlen : FL.length ≤ 4194304) (hs : ∃ p n c, s = .slice p n c) (hx : x.k = 2) (ho : o.k = 4) :
    Calls Tryz.prog 87 #[.pointer (some ⟨g, 0, none⟩), pieceQ o sv] w fun e w' => e = .returned (.tuple #[.nilIface, .bool false]) ∧ Below w.heap.size w w' := by
  obtain ⟨p1, l1, q1, rfl⟩ := hs
  have cl := last_one pv FL (pieceQ x (.slice p1 l1 q1)) B w hrow hlen
  obtain ⟨p, cap, hpv⟩ := own_slice hrow
  obtain ⟨av, jv, hs0⟩ := h
  have c2 : w.cell? ⟨g, 2, none⟩ = some pv := by rw [cell_of_heap hs0.at_]; rfl
  obtain ⟨Vx, hVx⟩ : ∃ V, valP x.v = V := ⟨_, rfl⟩
  obtain ⟨tx, htx⟩ : ∃ z, x.t = z := ⟨_, rfl⟩
  obtain ⟨co, hco⟩ : ∃ z, o.c = z := ⟨_, rfl⟩
  rw [pieceQ_2 hx, hVx, htx] at cl
  rw [pieceQ_4 ho, hco]
  clear hs0 hrow hx ho hpv hVx htx hco
  have a0 := as_e_i
  have a1 := as_e_r
  go_enter Tryz.func87, Tryz.ntmps87
  go_wp2_with fail
  refine cl.mono ?_; rintro e w1 ⟨rfl, rfl⟩
  clear cl
  go_wp2
  go_ret2
  exact ⟨rfl, by go_grown⟩
set_option maxHeartbeats 4000000 in
set_option maxRecDepth 100000 in
theorem join_no31 {B g : Nat} {c0 c1 pv c3 : Value} {l : List UInt8} (x o : Op5) (s sv : Value) (FL : List Value) (w : World) (h : SbE w B g c0 c1 pv c3 l) (hrow : w.ownsRow B 87 1 pv (FL ++ [pieceQ x s]).length (FL ++ [pieceQ x s])) (hlen : FL.length ≤ 4194304) (hs : ∃ p n c, s = .slice p n c) (hx : x.k = 3) (ho : o.k = 1) :
    Calls Tryz.prog 87 #[.pointer (some ⟨g, 0, none⟩), pieceQ o sv] w fun e w' => e = .returned (.tuple #[.nilIface, .bool false]) ∧ Below w.heap.size w w' := by
  obtain ⟨p1, l1, q1, rfl⟩ := hs
  have cl := last_one pv FL (pieceQ x (.slice p1 l1 q1)) B w hrow hlen
  obtain ⟨p, cap, hpv⟩ := own_slice hrow
  obtain ⟨av, jv, hs0⟩ := h
  have c2 : w.cell? ⟨g, 2, none⟩ = some pv := by rw [cell_of_heap hs0.at_]; rfl
  obtain ⟨cx, hcx⟩ : ∃ z, x.c = z := ⟨_, rfl⟩
  obtain ⟨no, hno⟩ : ∃ z : Int, ((scs o.t.data.toList).length : Int) = z := ⟨_, rfl⟩
  obtain ⟨tO, htO⟩ : ∃ z, o.t = z := ⟨_, rfl⟩
  rw [pieceQ_3 hx, hcx] at cl
  rw [pieceQ_1 ho, hno, htO]
  clear hs0 hrow hx ho hpv hcx hno htO
  have a0 := as_r_i
  have a1 := as_r_r
  have a2 := as_i_r
  go_enter Tryz.func87, Tryz.ntmps87
  go_wp2_with fail
  refine cl.mono ?_; rintro e w1 ⟨rfl, rfl⟩
  clear cl
  go_wp2
  go_ret2
  exact ⟨rfl, by go_grown⟩
set_option maxHeartbeats 4000000 in
set_option maxRecDepth 100000 in
theorem join_no32 {B g : Nat} {c0 c1 pv c3 : Value} {l : List UInt8} (x o : Op5) (s sv : Value) (FL : List Value) (w : World) (h : SbE w B g c0 c1 pv c3 l) (hrow : w.ownsRow B 87 1 pv (FL ++ [pieceQ x s]).length (FL ++ [pieceQ x s])) (hlen : FL.length ≤ 4194304) (hs : ∃ p n c, s = .slice p n c) (hx : x.k = 3) (ho : o.k = 2) :
    Calls Tryz.prog 87 #[.pointer (some ⟨g, 0, none⟩), pieceQ o sv] w fun e w' => e = .returned (.tuple #[.nilIface, .bool false]) ∧ Below w.heap.size w w' := by
  obtain ⟨p1, l1, q1, rfl⟩ := hs
  have cl := last_one pv FL (pieceQ x (.slice p1 l1 q1)) B w hrow hlen
  obtain ⟨p, cap, hpv⟩ := own_slice hrow
  obtain ⟨av, jv, hs0⟩ := h
  have c2 : w.cell? ⟨g, 2, none⟩ = some pv := by rw [cell_of_heap hs0.at_]; rfl
  obtain ⟨cx, hcx⟩ : ∃ z, x.c = z := ⟨_, rfl⟩
  obtain ⟨Vo, hVo⟩ : ∃ V, valP o.v = V := ⟨_, rfl⟩
  obtain ⟨tO, htO⟩ : ∃ z, o.t = z := ⟨_, rfl⟩
  rw [pieceQ_3 hx, hcx] at cl
  rw [pieceQ_2 ho, hVo, htO]
  clear hs0 hrow hx ho hpv hcx hVo htO
  have a0 := as_r_i
  have a1 := as_r_r
  have a2 := as_e_r
  go_enter Tryz.func87, Tryz.ntmps87
  go_wp2_with fail
  refine cl.mono ?_; rintro e w1 ⟨rfl, rfl⟩
  clear cl
  go_wp2
  go_ret2
  exact ⟨rfl, by go_grown⟩
set_option maxHeartbeats 4000000 in
set_option maxRecDepth 100000 in
theorem join_no34 {B g : Nat} {c0 c1 pv c3 : Value} {l : List UInt8} (x o : Op5) (s sv : Value) (FL : List Value) (w : World) (h : SbE w B g c0 c1 pv c3 l) (hrow : w.ownsRow B 87 1 pv (FL ++ [pieceQ x s]).length (FL ++ [pieceQ x s])) (hlen : FL.length ≤ 4194304) (hs : ∃ p n c, s = .slice p n c) (hx : x.k = 3) (ho : o.k = 4) :
    Calls Tryz.prog 87 #[.pointer (some ⟨g, 0, none⟩), pieceQ o sv] w fun e w' => e = .returned (.tuple #[.nilIface, .bool false]) ∧ Below w.heap.size w w' := by
  obtain ⟨p1, l1, q1, rfl⟩ := hs
  have cl := last_one pv FL (pieceQ x (.slice p1 l1 q1)) B w hrow hlen
  obtain ⟨p, cap, hpv⟩ := own_slice hrow
  obtain ⟨av, jv, hs0⟩ := h
  have c2 : w.cell? ⟨g, 2, none⟩ = some pv := by rw [cell_of_heap hs0.at_]; rfl
  obtain ⟨cx, hcx⟩ : ∃ z, x.c = z := ⟨_, rfl⟩
  obtain ⟨co, hco⟩ : ∃ z, o.c = z := ⟨_, rfl⟩
  rw [pieceQ_3 hx, hcx] at cl
  rw [pieceQ_4 ho, hco]
  clear hs0 hrow hx ho hpv hcx hco
  have a0 := as_r_i
  have a1 := as_r_r
  have a2 := as_d_r
  go_enter Tryz.func87, Tryz.ntmps87
  go_wp2_with fail
  refine cl.mono ?_; rintro e w1 ⟨rfl, rfl⟩
  clear cl
  go_wp2
  go_ret2
  exact ⟨rfl, by go_grown⟩
set_option maxHeartbeats 4000000 in
set_option maxRecDepth 100000 in
theorem join_no41 {B g : Nat} {c0 c1 pv c3 : Value} {l : List UInt8} (x o : Op5) (s sv : Value) (FL : List Value) (w : World) (h : SbE w B g c0 c1 pv c3 l) (hrow : w.ownsRow B 87 1 pv (FL ++ [pieceQ x s]).length (FL ++ [pieceQ x s])) (hlen : FL.length ≤ 4194304) (hs : ∃ p n c, s = .slice p n c) (hx : x.k = 4) (ho : o.k = 1) :
    Calls Tryz.prog 87 #[.pointer (some ⟨g, 0, none⟩), pieceQ o sv] w fun e w' => e = .returned (.tuple #[.nilIface, .bool false]) ∧ Below w.heap.size w w' := by
  obtain ⟨p1, l1, q1, rfl⟩ := hs
  have cl := last_one pv FL (pieceQ x (.slice p1 l1 q1)) B w hrow hlen
  obtain ⟨p, cap, hpv⟩ := own_slice hrow
  obtain ⟨av, jv, hs0⟩ := h
  have c2 : w.cell? ⟨g, 2, none⟩ = some pv := by rw [cell_of_heap hs0.at_]; rfl
  obtain ⟨cx, hcx⟩ : ∃ z, x.c = z := ⟨_, rfl⟩
  obtain ⟨no, hno⟩ : ∃ z : Int, ((scs o.t.data.toList).length : Int) = z := ⟨_, rfl⟩
  obtain ⟨tO, htO⟩ : ∃ z, o.t = z := ⟨_, rfl⟩
  rw [pieceQ_4 hx, hcx] at cl
  rw [pieceQ_1 ho, hno, htO]
  clear hs0 hrow hx ho hpv hcx hno htO
  have a0 := as_d_i
  have a1 := as_d_r
  go_enter Tryz.func87, Tryz.ntmps87
  go_wp2_with fail
  refine cl.mono ?_; rintro e w1 ⟨rfl, rfl⟩
  clear cl
  go_wp2
  go_ret2
  exact ⟨rfl, by go_grown⟩
set_option maxHeartbeats 4000000 in
set_option maxRecDepth 100000 in
theorem join_no42 {B g : Nat} {c0 c1 pv c3 : Value} {l : List UInt8} (x o : Op5) (s sv : Value) (FL : List Value) (w : World) (h : SbE w B g c0 c1 pv c3 l) (hrow : w.ownsRow B 87 1 pv (FL ++ [pieceQ x s]).length (FL ++ [pieceQ x s])) (hlen : FL.length ≤ 4194304) (hs : ∃ p n c, s = .slice p n c) (hx : x.k = 4) (ho : o.k = 2) :
    Calls Tryz.prog 87 #[.pointer (some ⟨g, 0, none⟩), pieceQ o sv] w fun e w' => e = .returned (.tuple #[.nilIface, .bool false]) ∧ Below w.heap.size w w' := by
  obtain ⟨p1, l1, q1, rfl⟩ := hs
  have cl := last_one pv FL (pieceQ x (.slice p1 l1 q1)) B w hrow hlen
  obtain ⟨p, cap, hpv⟩ := own_slice hrow
  obtain ⟨av, jv, hs0⟩ := h
  have c2 : w.cell? ⟨g, 2, none⟩ = some pv := by rw [cell_of_heap hs0.at_]; rfl
  obtain ⟨cx, hcx⟩ : ∃ z, x.c = z := ⟨_, rfl⟩
  obtain ⟨Vo, hVo⟩ : ∃ V, valP o.v = V := ⟨_, rfl⟩
  obtain ⟨tO, htO⟩ : ∃ z, o.t = z := ⟨_, rfl⟩
  rw [pieceQ_4 hx, hcx] at cl
  rw [pieceQ_2 ho, hVo, htO]
  clear hs0 hrow hx ho hpv hcx hVo htO
  have a0 := as_d_i
  have a1 := as_d_r
  go_enter Tryz.func87, Tryz.ntmps87
  go_wp2_with fail
  refine cl.mono ?_; rintro e w1 ⟨rfl, rfl⟩
  clear cl
  go_wp2
  go_ret2
  exact ⟨rfl, by go_grown⟩
set_option maxHeartbeats 4000000 in
set_option maxRecDepth 100000 in
theorem join_no43 {B g : Nat} {c0 c1 pv c3 : Value} {l : List UInt8} (x o : Op5) (s sv : Value) (FL : List Value) (w : World) (h : SbE w B g c0 c1 pv c3 l) (hrow : w.ownsRow B 87 1 pv (FL ++ [pieceQ x s]).length (FL ++ [pieceQ x s])) (hlen : FL.length ≤ 4194304) (hs : ∃ p n c, s = .slice p n c) (hx : x.k = 4) (ho : o.k = 3) :
    Calls Tryz.prog 87 #[.pointer (some ⟨g, 0, none⟩), pieceQ o sv] w fun e w' => e = .returned (.tuple #[.nilIface, .bool false]) ∧ Below w.heap.size w w' := by
  obtain ⟨p1, l1, q1, rfl⟩ := hs
  have cl := last_one pv FL (pieceQ x (.slice p1 l1 q1)) B w hrow hlen
  obtain ⟨p, cap, hpv⟩ := own_slice hrow
  obtain ⟨av, jv, hs0⟩ := h
  have c2 : w.cell? ⟨g, 2, none⟩ = some pv := by rw [cell_of_heap hs0.at_]; rfl
  obtain ⟨cx, hcx⟩ : ∃ z, x.c = z := ⟨_, rfl⟩
  obtain ⟨co, hco⟩ : ∃ z, o.c = z := ⟨_, rfl⟩
  rw [pieceQ_4 hx, hcx] at cl
  rw [pieceQ_3 ho, hco]
  clear hs0 hrow hx ho hpv hcx hco
  have a0 := as_d_i
  have a1 := as_d_r
  go_enter Tryz.func87, Tryz.ntmps87
  go_wp2_with fail
  refine cl.mono ?_; rintro e w1 ⟨rfl, rfl⟩
  clear cl
  go_wp2
  go_ret2
  exact ⟨rfl, by go_grown⟩
set_option maxHeartbeats 4000000 in
set_option maxRecDepth 100000 in
theorem join_no44 {B g : Nat} {c0 c1 pv c3 : Value} {l : List UInt8} (x o : Op5) (s sv : Value) (FL : List Value) (w : World) (h : SbE w B g c0 c1 pv c3 l) (hrow : w.ownsRow B 87 1 pv (FL ++ [pieceQ x s]).length (FL ++ [pieceQ x s])) (hlen : FL.length ≤ 4194304) (hs : ∃ p n c, s = .slice p n c) (hx : x.k = 4) (ho : o.k = 4) :
    Calls Tryz.prog 87 #[.pointer (some ⟨g, 0, none⟩), pieceQ o sv] w fun e w' => e = .returned (.tuple #[.nilIface, .bool false]) ∧ Below w.heap.size w w' := by
  obtain ⟨p1, l1, q1, rfl⟩ := hs
  have cl := last_one pv FL (pieceQ x (.slice p1 l1 q1)) B w hrow hlen
  obtain ⟨p, cap, hpv⟩ := own_slice hrow
  obtain ⟨av, jv, hs0⟩ := h
  have c2 : w.cell? ⟨g, 2, none⟩ = some pv := by rw [cell_of_heap hs0.at_]; rfl
  obtain ⟨cx, hcx⟩ : ∃ z, x.c = z := ⟨_, rfl⟩
  obtain ⟨co, hco⟩ : ∃ z, o.c = z := ⟨_, rfl⟩
  rw [pieceQ_4 hx, hcx] at cl
  rw [pieceQ_4 ho, hco]
  clear hs0 hrow hx ho hpv hcx hco
  have a0 := as_d_i
  have a1 := as_d_r
  go_enter Tryz.func87, Tryz.ntmps87
  go_wp2_with fail
  refine cl.mono ?_; rintro e w1 ⟨rfl, rfl⟩
  clear cl
  go_wp2
  go_ret2
  exact ⟨rfl, by go_grown⟩
end Go.Proofs.YtfllomfjhkgaoaaGreatDoor

/- The document's deltas: push: an operation put behind others. -/
namespace Go.Proofs.YtfllomfjhkgaoaaGreatDoor
open Go Go.RowKit Go.Lib
set_option linter.unusedVariables false

/-- An operation in memory, its fields those of e. -/
abbrev FldE (d : OV) (e : Op5) : Prop := d.1 = e.k ∧ d.2.1 = e.t ∧ d.2.2.1 = e.v ∧ d.2.2.2.1 = e.c
/-- The cells of a row, one operation of it with another text and count. -/
theorem cellsO_set (F : List OV) (d : OV) (t : ByteArray) (c : Int) : ((cellsO (F ++ [d])).set (F.length * 7 + 1) (.string t)).set (F.length * 7 + 5) (.int .i64 c) = cellsO (F ++ [(d.1, t, d.2.2.1, c, d.2.2.2.2)]) := by
  rw [cellsO_append, cellsO_append]
  have hl := cellsO_len F
  rw [List.set_append_right _ _ (by omega), List.set_append_right _ _ (by omega), hl]
  rw [show F.length * 7 + 1 - F.length * 7 = 1 by omega, show F.length * 7 + 5 - F.length * 7 = 5 by omega]
  simp [cellsO]
theorem own_joinO {w : World} {B g cap : Nat} {F : List OV} {d : OV} (h : OwnO w B (.slice (some ⟨g, 0, none⟩) (F.length + 1) cap) (F ++ [d])) (t : ByteArray) (c : Int) :
    OwnO ((w.setCell ⟨g, F.length * 7 + 1, none⟩ (.string t)).setCell ⟨g, F.length * 7 + 5, none⟩ (.int .i64 c)) B (.slice (some ⟨g, 0, none⟩) (F.length + 1) cap) (F ++ [(d.1, t, d.2.2.1, c, d.2.2.2.2)]) := by
  have h' : w.ownsRow B 48 7 (.slice (some ⟨g, 0, none⟩) (F.length + 1) cap) (F.length + 1) (cellsO (F ++ [d])) := by
    have := h
    unfold OwnO at this
    rw [List.length_append] at this
    exact this
  have h1 := (h'.stored (F.length * 7 + 1) (.string t)).1
  have h2 := (h1.stored (F.length * 7 + 5) (.int .i64 c)).1
  rw [cellsO_set] at h2
  show World.ownsRow _ _ _ _ _ _ _
  rw [List.length_append]
  exact h2
/-- But for one row's block the memory stands. -/
structure Row1 (v : Value) (w w' : World) : Prop where
  os : w'.os = w.os
  tape : w'.tape = w.tape
  output : w'.output = w.output
  size : w.heap.size ≤ w'.heap.size
  block : ∀ k, k < w.heap.size → v.ownBlock ≠ some k → w'.heap[k]? = w.heap[k]?
theorem Row1.of_below {v : Value} {w w' : World} (h : Below w.heap.size w w') : Row1 v w w' := ⟨h.os, h.tape, h.output, h.size, fun k hk _ => h.block k hk⟩
theorem Row1.grown {v : Value} {a w w' : World} (h : Row1 v a w) (g : w.grownBy w' v.ownBlock) : Row1 v a w' :=
  ⟨g.os.trans h.os, g.tape.trans h.tape, g.output.trans h.output, Nat.le_trans h.size g.size, fun k hk hn => (g.block k (Nat.lt_of_lt_of_le hk h.size) (fun e => hn e.symm)).trans (h.block k hk hn)⟩
theorem Row1.setCell {v : Value} {a w : World} (h : Row1 v a w) {g : Nat} (hg : v.ownBlock = some g) (j : Nat) (u : Value) : Row1 v a (w.setCell ⟨g, j, none⟩ u) :=
  ⟨h.os, h.tape, h.output, by simpa [World.setCell] using h.size, fun k hk hn => (Below.heap_setCell _ _ _ _ (by intro e; obtain rfl : k = g := e; exact hn hg)).trans (h.block k hk hn)⟩
theorem Row1.drew {v : Value} {a w : World} (h : Row1 v a w) : Row1 v a w.drew := ⟨h.os, h.tape, h.output, h.size, h.block⟩
theorem Row1.below {v : Value} {w w' : World} {B : Nat} (h : Row1 v w w') (hB : B ≤ w.heap.size) (hv : ∀ k, v.ownBlock = some k → B ≤ k) : Below B w w' :=
  ⟨h.os, h.tape, h.output, h.size, fun k hk => h.block k (by omega) (fun e => by have := hv k e; omega)⟩
/-- What push answers: the row grown. -/
abbrev PushR (w0 : World) (B : Nat) (w w' : World) (v : Value) (e : Ending) (P : List Op5) : Prop := ∃ v' D', e = .returned v' ∧ OwnO w' B v' D' ∧ ReD w0 D' P ∧ Row1 v w w' ∧ (v'.ownBlock = v.ownBlock ∨ ∃ k, v'.ownBlock = some k ∧ w.heap.size ≤ k)

theorem Hid.mk' {p : Prop} (h : p) : Hid p := h
/-- What append finds behind the first region, from whatever world. -/
theorem push6_tail {w0 w : World} {B : Nat} {v : Value} {D : List OV} {P : List Op5} {o : Op5} {sp : Option Addr} {sl sc : Nat} (hB : B ≤ w.heap.size) (hw : Below w0.heap.size w0 w) (hv : OwnO w B v D) (hD : ReD w0 D P) (ho : RN w0 (.slice sp sl sc) o.A) (W1 : World) (h1 : Below w.heap.size w W1) :
    OwnO (W1.alloc (.cells (opC o (.slice sp sl sc)) 48)) B v D ∧ OpAt (W1.alloc (.cells (opC o (.slice sp sl sc)) 48)) W1.heap.size 0 (o.k, o.t, o.v, o.c, (sp, sl, sc)) ∧ B ≤ (W1.alloc (.cells (opC o (.slice sp sl sc)) 48)).heap.size ∧
      ∀ v8 w8, OwnO w8 B v8 (D ++ [(o.k, o.t, o.v, o.c, (sp, sl, sc))]) → (W1.alloc (.cells (opC o (.slice sp sl sc)) 48)).grownBy w8 v.ownBlock → (v8.ownBlock = v.ownBlock ∨ v8.ownBlock = some (W1.alloc (.cells (opC o (.slice sp sl sc)) 48)).heap.size) → PushR w0 B w w8 v (.returned v8) (P ++ [o]) := by
  have b1 : Below w.heap.size w (W1.alloc (.cells (opC o (.slice sp sl sc)) 48)) := h1.alloc h1.size _
  refine ⟨owns_below hv b1, ?_, Nat.le_trans hB b1.size, fun v8 w8 h2 h3 h4 => ⟨v8, _, rfl, h2, forall2_append hD (.cons ⟨rfl, rfl, rfl, rfl, ho⟩ .nil), (Row1.of_below b1).grown h3, h4.imp id (fun e => ⟨_, e, b1.size⟩)⟩⟩
  refine ⟨?_, ?_, ?_, ?_, ?_, ?_, ?_⟩ <;> simp [opC]
set_option maxHeartbeats 4000000 in
set_option maxRecDepth 100000 in
theorem push6_nil {w0 : World} {B : Nat} (v : Value) (D : List OV) (P : List Op5) (o : Op5) (sp : Option Addr) (sl sc : Nat) (w : World) (hB : B ≤ w.heap.size) (hw : Below w0.heap.size w0 w) (hv : OwnO w B v D) (hD : ReD w0 D P) (ho : RN w0 (.slice sp sl sc) o.A) (hl : P.length ≤ 8388608) (hP : P = []) :
    Calls Tryz.prog 45 #[v, opV o (.slice sp sl sc)] w fun e w' => PushR w0 B w w' v e (P ++ [o]) := by
  have hlen := forall2_len hD
  have ba : Below w.heap.size w (w.alloc (.cells (opC o (.slice sp sl sc)) 48)) := (Below.refl _ _).alloc (Nat.le_refl _) _
  have hl33 : D.length ≤ 33554432 := by omega
  have HT : Hid _ := fun W1 h1 => push6_tail hB hw hv hD ho W1 h1
  subst hP
  have hD0 : D = [] := List.eq_nil_of_length_eq_zero (by simpa using hlen)
  subst hD0
  obtain ⟨p, cap, e⟩ := own_slice hv
  obtain rfl : v = .slice p 0 cap := e
  obtain ⟨k, t, ⟨xx, n, u⟩, cc, A⟩ := o
  have HT' : Hid (∀ W1, Below w.heap.size w W1 → _) := HT
  simp only [opC] at ba
  have hba : ∀ q, Below w.heap.size w ((w.alloc (.cells #[.int .i64 k, .string t, .int .i64 xx, .int .i64 n, .string u, .int .i64 cc, .slice sp sl sc] 48)).drewN q) := fun q => below_drewN ba q
  have HBA : Hid (∀ q, Below w.heap.size w ((w.alloc (.cells #[.int .i64 k, .string t, .int .i64 xx, .int .i64 n, .string u, .int .i64 cc, .slice sp sl sc] 48)).drewN q)) := hba
  have HO2 : Hid (∀ q, OpAt (((w.alloc (.cells #[.int .i64 k, .string t, .int .i64 xx, .int .i64 n, .string u, .int .i64 cc, .slice sp sl sc] 48)).drewN q).alloc (.cells #[.int .i64 k, .string t, .int .i64 xx, .int .i64 n, .string u, .int .i64 cc, .slice sp sl sc] 48)) (w.heap.size + 1) 0 (k, t, (xx, n, u), cc, sp, sl, sc)) := fun q => by
    have h := (HT'.out _ (HBA.out q)).2.1
    have e : ((w.alloc (.cells #[.int .i64 k, .string t, .int .i64 xx, .int .i64 n, .string u, .int .i64 cc, .slice sp sl sc] 48)).drewN q).heap.size = w.heap.size + 1 := by show (w.alloc _).heap.size = _; simp
    rw [e] at h
    exact h
  clear hv hD ho hlen ba hw hB HT hl hba
  go_enter Tryz.func45, Tryz.ntmps45
  go_wp2
  go_quiet (fail)
  go_wp2_with (at_builtin; refine wpList_append_ops rfl (.tmp 38) (.tmp 40) rfl B (.slice p 0 cap) [] rfl (HT'.out _ (HBA.out _)).1 _ 1 _ rfl (HO2.out _) hl33 (HT'.out _ (HBA.out _)).2.2.1 ?_; intro v8 w8 own8 gr8 hat8; have HQ : Hid (PushR w0 B w w8 (.slice p 0 cap) (.returned v8) ([] ++ [_])) := (HT'.out _ (HBA.out _)).2.2.2 v8 w8 own8 gr8 hat8; clear own8 gr8 hat8 HT' HBA HO2)
  go_ret
  exact HQ.out
set_option maxHeartbeats 4000000 in
set_option maxRecDepth 100000 in
theorem push6_kind {w0 : World} {B : Nat} (v : Value) (D : List OV) (P : List Op5) (o : Op5) (sp : Option Addr) (sl sc : Nat) (w : World) (hB : B ≤ w.heap.size) (hw : Below w0.heap.size w0 w) (hv : OwnO w B v D) (hD : ReD w0 D P) (ho : RN w0 (.slice sp sl sc) o.A) (hl : P.length ≤ 8388608) (F : List Op5) (x : Op5) (hP : P = F ++ [x]) (hx : x.k ≠ o.k ∨ o.k = 2) :
    Calls Tryz.prog 45 #[v, opV o (.slice sp sl sc)] w fun e w' => PushR w0 B w w' v e (P ++ [o]) := by
  have hlen := forall2_len hD
  have ba : Below w.heap.size w (w.alloc (.cells (opC o (.slice sp sl sc)) 48)) := (Below.refl _ _).alloc (Nat.le_refl _) _
  have hl33 : D.length ≤ 33554432 := by omega
  have HT : Hid _ := fun W1 h1 => push6_tail hB hw hv hD ho W1 h1
  subst hP
  obtain ⟨FD, d, rfl, hFD, hxd⟩ : ∃ FD d, D = FD ++ [d] ∧ ReD w0 FD F ∧ ((d.1 = x.k ∧ d.2.1 = x.t ∧ d.2.2.1 = x.v ∧ d.2.2.2.1 = x.c) ∧ RN w0 (slV d.2.2.2.2) x.A) := by
    rcases List.eq_nil_or_concat D with rfl | ⟨FD, d, rfl⟩
    · have := forall2_len hD; simp at this
    · rw [List.concat_eq_append] at hD ⊢
      have hl' : FD.length = F.length := by have := forall2_len hD; simpa using this
      obtain ⟨h1, h2⟩ := forall2_unappend hl' hD
      cases h2 with
      | cons a _ => exact ⟨FD, d, rfl, h1, ⟨a.1, a.2.1, a.2.2.1, a.2.2.2.1⟩, a.2.2.2.2⟩
  obtain ⟨⟨f1, f2, f3, f4⟩, hrx⟩ := hxd
  have hFl := forall2_len hFD
  obtain ⟨g, cap, rfl⟩ : ∃ g cap, v = .slice (some ⟨g, 0, none⟩) (FD.length + 1) cap := by
    rcases hv.2 with ⟨_, h0⟩ | ⟨g, cap, cur, e, _⟩
    · simp at h0
    · exact ⟨g, cap, by rw [e]; simp⟩
  have hv2 : w.ownsRow B 48 7 (.slice (some ⟨g, 0, none⟩) (FD.length + 1) cap) (FD.length + 1) (cellsO (FD ++ [d])) := by
    have h := hv
    unfold OwnO at h
    rw [show (FD ++ [d]).length = FD.length + 1 by simp] at h
    exact h
  have hat := own_opAt hv2 FD.length d (by simp)
  rw [Nat.zero_add] at hat
  obtain ⟨m, hm⟩ : ∃ m, FD.length = m := ⟨_, rfl⟩
  have c0 := hat.c0
  rw [f1] at c0
  rw [hm] at c0 HT ⊢
  obtain ⟨xk, hxk⟩ : ∃ z, x.k = z := ⟨_, rfl⟩
  rw [hxk] at c0 hx
  obtain ⟨k, t, ⟨xx, n, u⟩, cc, A⟩ := o
  have HT' : Hid (∀ W1, Below w.heap.size w W1 → _) := HT
  simp only [opC] at ba hx
  have c0' : (w.alloc (.cells #[.int .i64 k, .string t, .int .i64 xx, .int .i64 n, .string u, .int .i64 cc, .slice sp sl sc] 48)).cell? ⟨g, m * 7, none⟩ = some (.int .i64 xk) := (ba.cell (lt_of_cell c0)).trans c0
  have hgw : g < w.heap.size := lt_of_cell c0
  have hne : ¬ g = w.heap.size := by omega
  have HBA : Hid (∀ q, Below w.heap.size w ((w.alloc (.cells #[.int .i64 k, .string t, .int .i64 xx, .int .i64 n, .string u, .int .i64 cc, .slice sp sl sc] 48)).drewN q)) := fun q => below_drewN ba q
  have HO2 : Hid (∀ q, OpAt (((w.alloc (.cells #[.int .i64 k, .string t, .int .i64 xx, .int .i64 n, .string u, .int .i64 cc, .slice sp sl sc] 48)).drewN q).alloc (.cells #[.int .i64 k, .string t, .int .i64 xx, .int .i64 n, .string u, .int .i64 cc, .slice sp sl sc] 48)) (w.heap.size + 1) 0 (k, t, (xx, n, u), cc, sp, sl, sc)) := fun q => by
    have h := (HT'.out _ (HBA.out q)).2.1
    have e : ((w.alloc (.cells #[.int .i64 k, .string t, .int .i64 xx, .int .i64 n, .string u, .int .i64 cc, .slice sp sl sc] 48)).drewN q).heap.size = w.heap.size + 1 := by show (w.alloc _).heap.size = _; simp
    rw [e] at h
    exact h
  have hz : (((m : Int) + 1) == 0) = false := by rw [beq_eq_false_iff_ne]; omega
  have hd1 : ((m : Int) + 1) - 1 = (m : Int) := by omega
  have hmz : (0 : Int) ≤ (m : Int) := by omega
  have hml : m ≤ 8388608 := by simp at hl; omega
  have hmlt : (m : Int) < (m : Int) + 1 := by omega
  clear hv hD ho hlen ba hw hB HT hl hv2 hat hFD hFl f1 f2 f3 f4 hrx hm hxk c0
  by_cases hk : xk = k
  · obtain rfl : k = 2 := hx.resolve_left (fun h => h hk)
    subst hk
    go_enter Tryz.func45, Tryz.ntmps45
    go_wp2
    go_quiet (fail)
    go_wp2_with (at_builtin; refine wpList_append_ops rfl (.tmp 38) (.tmp 40) rfl B _ (FD ++ [d]) rfl (HT'.out _ (HBA.out _)).1 _ 1 _ rfl (HO2.out _) hl33 (HT'.out _ (HBA.out _)).2.2.1 ?_; intro v8 w8 own8 gr8 hat8; have HQ := Hid.mk' ((HT'.out _ (HBA.out _)).2.2.2 v8 w8 own8 gr8 hat8); clear own8 gr8 hat8 HT' HBA HO2)
    go_ret
    exact HQ.out
  · have hkb : (xk != k) = true := by simpa using hk
    clear hx hk
    go_enter Tryz.func45, Tryz.ntmps45
    go_wp2
    go_quiet (fail)
    go_wp2_with (at_builtin; refine wpList_append_ops rfl (.tmp 38) (.tmp 40) rfl B _ (FD ++ [d]) rfl (HT'.out _ (HBA.out _)).1 _ 1 _ rfl (HO2.out _) hl33 (HT'.out _ (HBA.out _)).2.2.1 ?_; intro v8 w8 own8 gr8 hat8; have HQ := Hid.mk' ((HT'.out _ (HBA.out _)).2.2.2 v8 w8 own8 gr8 hat8); clear own8 gr8 hat8 HT' HBA HO2)
    go_ret
    exact HQ.out
set_option maxHeartbeats 4000000 in
set_option maxRecDepth 100000 in
theorem push6_same {w0 : World} {B : Nat} (v : Value) (D : List OV) (P : List Op5) (o : Op5) (sp : Option Addr) (sl sc : Nat) (w : World) (hB : B ≤ w.heap.size) (hw : Below w0.heap.size w0 w) (hv : OwnO w B v D) (hD : ReD w0 D P) (ho : RN w0 (.slice sp sl sc) o.A) (hl : P.length ≤ 8388608) (F : List Op5) (x : Op5) (hP : P = F ++ [x]) (hx : x.k = o.k) (h2 : o.k ≠ 2) (hn1 : x.A.length ≤ 2097152) (hn2 : o.A.length ≤ 2097152) (hsz : x.t.size + o.t.size ≤ 16777216) (hcc : 0 ≤ x.c ∧ 0 ≤ o.c ∧ x.c + o.c ≤ 4398046511104) :
    Calls Tryz.prog 45 #[v, opV o (.slice sp sl sc)] w fun e w' => PushR w0 B w w' v e (if x.A = o.A then F ++ [jnO x o] else P ++ [o]) := by
  have hlen := forall2_len hD
  have ba : Below w.heap.size w (w.alloc (.cells (opC o (.slice sp sl sc)) 48)) := (Below.refl _ _).alloc (Nat.le_refl _) _
  have hl33 : D.length ≤ 33554432 := by omega
  have HT : Hid _ := fun W1 h1 => push6_tail hB hw hv hD ho W1 h1
  subst hP
  obtain ⟨FD, d, rfl, hFD, hxd⟩ : ∃ FD d, D = FD ++ [d] ∧ ReD w0 FD F ∧ ((d.1 = x.k ∧ d.2.1 = x.t ∧ d.2.2.1 = x.v ∧ d.2.2.2.1 = x.c) ∧ RN w0 (slV d.2.2.2.2) x.A) := by
    rcases List.eq_nil_or_concat D with rfl | ⟨FD, d, rfl⟩
    · have := forall2_len hD; simp at this
    · rw [List.concat_eq_append] at hD ⊢
      have hl' : FD.length = F.length := by have := forall2_len hD; simpa using this
      obtain ⟨h1, h2⟩ := forall2_unappend hl' hD
      cases h2 with
      | cons a _ => exact ⟨FD, d, rfl, h1, ⟨a.1, a.2.1, a.2.2.1, a.2.2.2.1⟩, a.2.2.2.2⟩
  obtain ⟨⟨f1, f2, f3, f4⟩, hrx⟩ := hxd
  have hFl := forall2_len hFD
  obtain ⟨g, cap, rfl⟩ : ∃ g cap, v = .slice (some ⟨g, 0, none⟩) (FD.length + 1) cap := by
    rcases hv.2 with ⟨_, h0⟩ | ⟨g, cap, cur, e, _⟩
    · simp at h0
    · exact ⟨g, cap, by rw [e]; simp⟩
  have hv2 : w.ownsRow B 48 7 (.slice (some ⟨g, 0, none⟩) (FD.length + 1) cap) (FD.length + 1) (cellsO (FD ++ [d])) := by
    have h := hv
    unfold OwnO at h
    rw [show (FD ++ [d]).length = FD.length + 1 by simp] at h
    exact h
  have hat := own_opAt hv2 FD.length d (by simp)
  rw [Nat.zero_add] at hat
  obtain ⟨m, hm⟩ : ∃ m, FD.length = m := ⟨_, rfl⟩
  have CS : Hid (∀ W, Below w.heap.size w W → Calls Tryz.prog 52 #[slV d.2.2.2.2, .slice sp sl sc] W fun r w' => r = .returned (.bool (decide (x.A = o.A))) ∧ Below W.heap.size W w') := fun W hW => refSame_any _ _ x.A o.A W ((hrx.below hw).below hW).row ((ho.below hw).below hW).row (by omega) (by omega)
  have HJ : Hid (x.A = o.A → ∀ W, Below w.heap.size w W → PushR w0 B w ((W.setCell ⟨g, m * 7 + 1, none⟩ (.string (x.t ++ o.t))).setCell ⟨g, m * 7 + 5, none⟩ (.int .i64 (x.c + o.c))).drew.drew (.slice (some ⟨g, 0, none⟩) (FD.length + 1) cap) (.returned (.slice (some ⟨g, 0, none⟩) (FD.length + 1) cap)) (F ++ [jnO x o]) ∧ W.frozen? ⟨g, m * 7 + 1, none⟩ = false ∧ W.frozen? ⟨g, m * 7 + 5, none⟩ = false) := fun hA W hW => by
    have hvW : OwnO W B (.slice (some ⟨g, 0, none⟩) (FD.length + 1) cap) (FD ++ [d]) := owns_below hv hW
    have hj := own_joinO hvW (x.t ++ o.t) (x.c + o.c)
    rw [hm] at hj
    obtain ⟨_, cur, hcur⟩ := owns_block hvW g rfl
    refine ⟨⟨.slice (some ⟨g, 0, none⟩) (FD.length + 1) cap, FD ++ [(d.1, x.t ++ o.t, d.2.2.1, x.c + o.c, d.2.2.2.2)], rfl, ?_, forall2_append hFD (.cons ⟨f1, rfl, f3, rfl, hrx⟩ .nil), ?_, Or.inl rfl⟩, frozen_of_heap hcur _, frozen_of_heap hcur _⟩
    · rw [hm]; exact hj
    · exact (((Row1.of_below hW).setCell rfl _ _).setCell rfl _ _).drew.drew
  have c0 := hat.c0
  have c1 := hat.c1
  have c5 := hat.c5
  have c6 := hat.c6
  rw [f1, hx] at c0
  rw [f2] at c1
  rw [f4] at c5
  rw [hm] at c0 c1 c5 c6 HT HJ ⊢
  obtain ⟨xt, hxt⟩ : ∃ z, x.t = z := ⟨_, rfl⟩
  obtain ⟨xc, hxc⟩ : ∃ z, x.c = z := ⟨_, rfl⟩
  rw [hxt] at c1 HJ hsz
  rw [hxc] at c5 HJ hcc
  obtain ⟨⟨xp, xl, xcap⟩, hxs⟩ : ∃ z, d.2.2.2.2 = z := ⟨_, rfl⟩
  rw [hxs] at c6 CS
  simp only [slV] at c6 CS
  obtain ⟨q, hq⟩ : ∃ q, decide (x.A = o.A) = q := ⟨_, rfl⟩
  rw [hq] at CS
  have HQ : Hid (decide (x.A = o.A) = q) := hq
  have hgw : g < w.heap.size := lt_of_cell c0
  obtain ⟨k, t, ⟨xx, n, u⟩, cc, A⟩ := o
  have HT' : Hid (∀ W1, Below w.heap.size w W1 → _) := HT
  simp only [opC] at ba
  simp only at hcc hsz h2 c0 HJ HQ ⊢
  obtain ⟨hc1, hc2, hc3⟩ := hcc
  have hz : (((m : Int) + 1) == 0) = false := by rw [beq_eq_false_iff_ne]; omega
  have hd1 : ((m : Int) + 1) - 1 = (m : Int) := by omega
  have hmz : (0 : Int) ≤ (m : Int) := by omega
  have hk2 : (k == 2) = false := by simpa using h2
  have hw1 : IntKind.i64.wrap (m : Int) = (m : Int) := IntWalk.i64_in _ (by simp at hl; omega)
  have hw2 : IntKind.i64.wrap ((m : Int) + 1 - 1) = (m : Int) := by rw [hd1]; exact hw1
  have hml : m ≤ 8388608 := by simp at hl; omega
  have hmlt : (m : Int) < (m : Int) + 1 := by omega
  obtain ⟨W1, hW1⟩ : ∃ W, W = w.alloc (.cells #[.int .i64 k, .string t, .int .i64 xx, .int .i64 n, .string u, .int .i64 cc, .slice sp sl sc] 48) := ⟨_, rfl⟩
  rw [← hW1] at ba
  have d0 : W1.cell? ⟨w.heap.size, 0, none⟩ = some (.int .i64 k) := by rw [hW1]; simp
  have d1 : W1.cell? ⟨w.heap.size, 1, none⟩ = some (.string t) := by rw [hW1]; simp
  have d2 : W1.cell? ⟨w.heap.size, 2, none⟩ = some (.int .i64 xx) := by rw [hW1]; simp
  have d3 : W1.cell? ⟨w.heap.size, 3, none⟩ = some (.int .i64 n) := by rw [hW1]; simp
  have d4 : W1.cell? ⟨w.heap.size, 4, none⟩ = some (.string u) := by rw [hW1]; simp
  have d5 : W1.cell? ⟨w.heap.size, 5, none⟩ = some (.int .i64 cc) := by rw [hW1]; simp
  have d6 : W1.cell? ⟨w.heap.size, 6, none⟩ = some (.slice sp sl sc) := by rw [hW1]; simp
  have e0 : W1.cell? ⟨g, m * 7, none⟩ = some (.int .i64 k) := (ba.cell (lt_of_cell c0)).trans c0
  have e1 : W1.cell? ⟨g, m * 7 + 1, none⟩ = some (.string xt) := (ba.cell (lt_of_cell c1)).trans c1
  have e5 : W1.cell? ⟨g, m * 7 + 5, none⟩ = some (.int .i64 xc) := (ba.cell (lt_of_cell c5)).trans c5
  have e6 : W1.cell? ⟨g, m * 7 + 6, none⟩ = some (.slice xp xl xcap) := (ba.cell (lt_of_cell c6)).trans c6
  have HU : Hid (∀ w', Below W1.drew.heap.size W1.drew w' → (w'.cell? ⟨g, m * 7, none⟩ = some (.int .i64 k) ∧ w'.cell? ⟨g, m * 7 + 1, none⟩ = some (.string xt) ∧ w'.cell? ⟨g, m * 7 + 5, none⟩ = some (.int .i64 xc) ∧ w'.cell? ⟨g, m * 7 + 6, none⟩ = some (.slice xp xl xcap)) ∧ (w'.cell? ⟨w.heap.size, 0, none⟩ = some (.int .i64 k) ∧ w'.cell? ⟨w.heap.size, 1, none⟩ = some (.string t) ∧ w'.cell? ⟨w.heap.size, 2, none⟩ = some (.int .i64 xx) ∧ w'.cell? ⟨w.heap.size, 3, none⟩ = some (.int .i64 n) ∧ w'.cell? ⟨w.heap.size, 4, none⟩ = some (.string u) ∧ w'.cell? ⟨w.heap.size, 5, none⟩ = some (.int .i64 cc) ∧ w'.cell? ⟨w.heap.size, 6, none⟩ = some (.slice sp sl sc))) := fun w' hb => ⟨⟨(hb.cell (lt_of_cell (w := W1.drew) e0)).trans e0, (hb.cell (lt_of_cell (w := W1.drew) e1)).trans e1, (hb.cell (lt_of_cell (w := W1.drew) e5)).trans e5, (hb.cell (lt_of_cell (w := W1.drew) e6)).trans e6⟩, (hb.cell (lt_of_cell (w := W1.drew) d0)).trans d0, (hb.cell (lt_of_cell (w := W1.drew) d1)).trans d1, (hb.cell (lt_of_cell (w := W1.drew) d2)).trans d2, (hb.cell (lt_of_cell (w := W1.drew) d3)).trans d3, (hb.cell (lt_of_cell (w := W1.drew) d4)).trans d4, (hb.cell (lt_of_cell (w := W1.drew) d5)).trans d5, (hb.cell (lt_of_cell (w := W1.drew) d6)).trans d6⟩
  have cs := CS.out W1.drew ba.drew
  have hne : ¬ g = w.heap.size := by omega
  have hne' : ¬ w.heap.size = g := by omega
  have hbs : w.heap.size ≤ W1.drew.heap.size := ba.size
  clear hv hD ho hlen hw hB HT hl hv2 hat hFD hFl f1 f2 f3 f4 hrx hm hxt hxc hxs hq CS c0 c1 c5 c6 h2 hx hn1 hn2
  go_enter Tryz.func45, Tryz.ntmps45
  go_upto_region 2 with fail
  rw [← hW1]
  clear hW1
  go_region_held3 (fun w' => ((w'.cell? ⟨g, m * 7, none⟩ = some (.int .i64 k) ∧ w'.cell? ⟨g, m * 7 + 1, none⟩ = some (.string xt) ∧ w'.cell? ⟨g, m * 7 + 5, none⟩ = some (.int .i64 xc) ∧ w'.cell? ⟨g, m * 7 + 6, none⟩ = some (.slice xp xl xcap)) ∧ (w'.cell? ⟨w.heap.size, 0, none⟩ = some (.int .i64 k) ∧ w'.cell? ⟨w.heap.size, 1, none⟩ = some (.string t) ∧ w'.cell? ⟨w.heap.size, 2, none⟩ = some (.int .i64 xx) ∧ w'.cell? ⟨w.heap.size, 3, none⟩ = some (.int .i64 n) ∧ w'.cell? ⟨w.heap.size, 4, none⟩ = some (.string u) ∧ w'.cell? ⟨w.heap.size, 5, none⟩ = some (.int .i64 cc) ∧ w'.cell? ⟨w.heap.size, 6, none⟩ = some (.slice sp sl sc))) ∧ Below w.heap.size w w')
    (exact ⟨by first | (with_reducible assumption) | (simp [*]; done), by first | (with_reducible assumption) | exact ba.drew⟩)
    (first | (go_at_call 52; refine cs.mono ?_; rintro r wD ⟨rfl, bD⟩; have jD : Below w.heap.size w wD := ba.drew.trans (bD.mono hbs); have mmD := HU.out _ bD))
  clear cs HU bD d0 d1 d2 d3 d4 d5 d6 e0 e1 e5 e6 ba
  obtain ⟨⟨e0, e1, e5, e6⟩, d0, d1, d2, d3, d4, d5, d6⟩ := mmD
  cases q with
  | true =>
    have hAA := of_decide_eq_true HQ.out
    obtain ⟨y1, y2, y3⟩ := HJ.out hAA wD jD
    have HY : Hid _ := y1
    have HAA := Hid.mk' hAA
    clear HJ HT' HQ hAA y1
    have e1d : wD.drew.cell? ⟨g, m * 7 + 1, none⟩ = some (.string xt) := e1
    go_wp2
    go_region
    all_goals go_wp2
    all_goals go_region
    all_goals go_wp2
    all_goals (go_ret; first | exact HY.out | (rw [if_pos HAA.out]; exact HY.out))
  | false =>
    have hAA := of_decide_eq_false HQ.out
    have HAA := Hid.mk' hAA
    have HBA : Hid (Below w.heap.size w wD) := jD
    clear HJ HQ hAA e0 e1 e5 e6 jD
    go_wp2_with (at_builtin; refine wpList_append_ops rfl (.tmp 38) (.tmp 40) rfl B _ (FD ++ [d]) rfl (HT'.out _ HBA.out).1 _ 1 _ rfl (HT'.out _ HBA.out).2.1 hl33 (HT'.out _ HBA.out).2.2.1 ?_; intro v8 w8 own8 gr8 hat8; have HQ := Hid.mk' ((HT'.out _ HBA.out).2.2.2 v8 w8 own8 gr8 hat8); clear own8 gr8 hat8 HT' HBA)
    go_ret
    have hq := HQ.out
    rw [List.append_assoc] at hq
    exact hq
end Go.Proofs.YtfllomfjhkgaoaaGreatDoor

/- build: join, where both are texts or both are retains. -/
namespace Go.Proofs.YtfllomfjhkgaoaaGreatDoor
open Go Go.RowKit Go.Lib
set_option linter.unusedVariables false

theorem jnO_len {x o : Op5} (hx : brk x.t.data.toList = x.t.size) (ho : brk o.t.data.toList = o.t.size) : ((scs (x.t ++ o.t).data.toList).length : Int) = (scs x.t.data.toList).length + (scs o.t.data.toList).length := by
  have hc := scs_cat (a := x.t.data.toList) (b := o.t.data.toList) (by rw [hx, size_toList]) (by rw [ho, size_toList])
  rw [cat_list, hc.1, List.length_append]
  omega
/-- Two lists the same or not. -/
abbrev SameC (x o : Op5) : Prop := ∀ W v v', RowA W v x.A → RowA W v' o.A → Calls Tryz.prog 70 #[v, v'] W fun r w' => r = .returned (.bool (decide (x.A = o.A))) ∧ Below W.heap.size W w'

set_option maxHeartbeats 4000000 in
set_option maxRecDepth 100000 in
theorem join_no11 {B g : Nat} {c0 c1 pv c3 : Value} {l : List UInt8} (x o : Op5) (s sv : Value) (FL : List Value) (w : World) (h : SbE w B g c0 c1 pv c3 l) (hrow : w.ownsRow B 87 1 pv (FL ++ [pieceQ x s]).length (FL ++ [pieceQ x s])) (hlen : FL.length ≤ 4194304) (hx : x.k = 1) (ho : o.k = 1) (hA : x.A ≠ o.A) (hs : RowA w s x.A) (hsv : RowA w sv o.A) (hl1 : x.A.length ≤ 2097152) (hl2 : o.A.length ≤ 2097152) :
    Calls Tryz.prog 87 #[.pointer (some ⟨g, 0, none⟩), pieceQ o sv] w fun e w' => e = .returned (.tuple #[.nilIface, .bool false]) ∧ Below w.heap.size w w' := by
  have cl := last_one pv FL (pieceQ x s) B w hrow hlen
  have HS : Hid (SameC x o) := fun W v v' h1 h2 => same_any' v v' x.A o.A W h1 h2 (by omega) (by omega)
  obtain ⟨p, cap, hpv⟩ := own_slice hrow
  obtain ⟨av, jv, hs0⟩ := h
  have c2 : w.cell? ⟨g, 2, none⟩ = some pv := by rw [cell_of_heap hs0.at_]; rfl
  have hd : decide (x.A = o.A) = false := decide_eq_false hA
  obtain ⟨nx, hnx⟩ : ∃ z : Int, ((scs x.t.data.toList).length : Int) = z := ⟨_, rfl⟩
  obtain ⟨tx, htx⟩ : ∃ z, x.t = z := ⟨_, rfl⟩
  obtain ⟨no, hno⟩ : ∃ z : Int, ((scs o.t.data.toList).length : Int) = z := ⟨_, rfl⟩
  obtain ⟨tO, htO⟩ : ∃ z, o.t = z := ⟨_, rfl⟩
  obtain ⟨p1, q1, e1, _⟩ := hs.val
  obtain ⟨p2, q2, e2, _⟩ := hsv.val
  rw [e1] at hs
  rw [e2] at hsv
  obtain ⟨l1, hl1'⟩ : ∃ z, x.A.length = z := ⟨_, rfl⟩
  obtain ⟨l2, hl2'⟩ : ∃ z, o.A.length = z := ⟨_, rfl⟩
  rw [pieceQ_1 hx, hnx, htx, e1] at cl
  rw [pieceQ_1 ho, hno, htO, e2]
  rw [hl1'] at cl hs
  rw [hl2'] at hsv ⊢
  have b0 : Below w.heap.size w ((w.alloc (.cells #[.slice p1 l1 q1, .string tx, .int .i64 nx] 125)).alloc (.cells #[.slice p2 l2 q2, .string tO, .int .i64 no] 125)) := ((Below.refl _ _).alloc (Nat.le_refl _) _).alloc (by simp) _
  have cs := HS.out _ _ _ (hs.below b0) (hsv.below b0)
  rw [hd] at cs
  clear hs0 hrow hx ho hpv hnx htx hno htO e1 e2 hs hsv hl1 hl2 hl1' hl2' HS hd hA
  have a0 := as_i_i
  go_enter Tryz.func87, Tryz.ntmps87
  go_wp2_with fail
  refine cl.mono ?_; rintro e w1 ⟨rfl, rfl⟩
  clear cl
  go_wp2_with (go_at_call 70; refine cs.mono ?_; rintro r w2 ⟨rfl, hb2⟩; have b2 := b0.trans (hb2.mono b0.size); clear cs b0 hb2)
  go_ret2
  exact ⟨rfl, b2⟩
set_option maxHeartbeats 4000000 in
set_option maxRecDepth 100000 in
theorem join_no33 {B g : Nat} {c0 c1 pv c3 : Value} {l : List UInt8} (x o : Op5) (s sv : Value) (FL : List Value) (w : World) (h : SbE w B g c0 c1 pv c3 l) (hrow : w.ownsRow B 87 1 pv (FL ++ [pieceQ x s]).length (FL ++ [pieceQ x s])) (hlen : FL.length ≤ 4194304) (hx : x.k = 3) (ho : o.k = 3) (hA : x.A ≠ o.A) (hs : RowA w s x.A) (hsv : RowA w sv o.A) (hl1 : x.A.length ≤ 2097152) (hl2 : o.A.length ≤ 2097152) :
    Calls Tryz.prog 87 #[.pointer (some ⟨g, 0, none⟩), pieceQ o sv] w fun e w' => e = .returned (.tuple #[.nilIface, .bool false]) ∧ Below w.heap.size w w' := by
  have cl := last_one pv FL (pieceQ x s) B w hrow hlen
  have HS : Hid (SameC x o) := fun W v v' h1 h2 => same_any' v v' x.A o.A W h1 h2 (by omega) (by omega)
  obtain ⟨p, cap, hpv⟩ := own_slice hrow
  obtain ⟨av, jv, hs0⟩ := h
  have c2 : w.cell? ⟨g, 2, none⟩ = some pv := by rw [cell_of_heap hs0.at_]; rfl
  have hd : decide (x.A = o.A) = false := decide_eq_false hA
  obtain ⟨cx, hcx⟩ : ∃ z, x.c = z := ⟨_, rfl⟩
  obtain ⟨co, hco⟩ : ∃ z, o.c = z := ⟨_, rfl⟩
  obtain ⟨p1, q1, e1, _⟩ := hs.val
  obtain ⟨p2, q2, e2, _⟩ := hsv.val
  rw [e1] at hs
  rw [e2] at hsv
  obtain ⟨l1, hl1'⟩ : ∃ z, x.A.length = z := ⟨_, rfl⟩
  obtain ⟨l2, hl2'⟩ : ∃ z, o.A.length = z := ⟨_, rfl⟩
  rw [pieceQ_3 hx, hcx, e1] at cl
  rw [pieceQ_3 ho, hco, e2]
  rw [hl1'] at cl hs
  rw [hl2'] at hsv ⊢
  have b0 : Below w.heap.size w ((w.alloc (.cells #[.slice p1 l1 q1, .int .i64 cx] 117)).alloc (.cells #[.slice p2 l2 q2, .int .i64 co] 117)) := ((Below.refl _ _).alloc (Nat.le_refl _) _).alloc (by simp) _
  have cs := HS.out _ _ _ (hs.below b0) (hsv.below b0)
  rw [hd] at cs
  clear hs0 hrow hx ho hpv hcx hco e1 e2 hs hsv hl1 hl2 hl1' hl2' HS hd hA
  have a0 := as_r_r
  have a1 := as_r_i
  go_enter Tryz.func87, Tryz.ntmps87
  go_wp2_with fail
  refine cl.mono ?_; rintro e w1 ⟨rfl, rfl⟩
  clear cl
  go_wp2_with (go_at_call 70; refine cs.mono ?_; rintro r w2 ⟨rfl, hb2⟩; have b2 := b0.trans (hb2.mono b0.size); clear cs b0 hb2)
  go_ret2
  exact ⟨rfl, b2⟩
set_option maxHeartbeats 4000000 in
set_option maxRecDepth 100000 in
theorem join_yes33 {B g : Nat} {c0 c1 pv c3 : Value} {l : List UInt8} (x o : Op5) (s sv : Value) (FL : List Value) (w : World) (h : SbE w B g c0 c1 pv c3 l) (hrow : w.ownsRow B 87 1 pv (FL ++ [pieceQ x s]).length (FL ++ [pieceQ x s])) (hlen : FL.length ≤ 4194304) (hx : x.k = 3) (ho : o.k = 3) (hA : x.A = o.A) (hs : RowA w s x.A) (hsv : RowA w sv o.A) (hl1 : x.A.length ≤ 2097152) (hl2 : o.A.length ≤ 2097152) (hc1 : 0 ≤ x.c ∧ 0 ≤ o.c ∧ x.c + o.c ≤ 4398046511104) :
    Calls Tryz.prog 87 #[.pointer (some ⟨g, 0, none⟩), pieceQ o sv] w fun e w' => e = .returned (.tuple #[pieceQ (jnO x o) s, .bool true]) ∧ Below w.heap.size w w' := by
  have cl := last_one pv FL (pieceQ x s) B w hrow hlen
  have HS : Hid (SameC x o) := fun W v v' h1 h2 => same_any' v v' x.A o.A W h1 h2 (by omega) (by omega)
  obtain ⟨p, cap, hpv⟩ := own_slice hrow
  obtain ⟨av, jv, hs0⟩ := h
  have c2 : w.cell? ⟨g, 2, none⟩ = some pv := by rw [cell_of_heap hs0.at_]; rfl
  have hd : decide (x.A = o.A) = true := decide_eq_true hA
  have hj : (jnO x o).c = x.c + o.c := rfl
  rw [pieceQ_3 (show (jnO x o).k = 3 from hx), hj]
  obtain ⟨cx, hcx⟩ : ∃ z, x.c = z := ⟨_, rfl⟩
  obtain ⟨co, hco⟩ : ∃ z, o.c = z := ⟨_, rfl⟩
  rw [hcx, hco] at hc1
  obtain ⟨hc1, hc2, hc3⟩ := hc1
  obtain ⟨p1, q1, e1, _⟩ := hs.val
  obtain ⟨p2, q2, e2, _⟩ := hsv.val
  rw [e1] at hs
  rw [e2] at hsv
  obtain ⟨l1, hl1'⟩ : ∃ z, x.A.length = z := ⟨_, rfl⟩
  obtain ⟨l2, hl2'⟩ : ∃ z, o.A.length = z := ⟨_, rfl⟩
  rw [pieceQ_3 hx, hcx, e1] at cl
  rw [pieceQ_3 ho, hcx, hco, e1, e2]
  rw [hl1'] at cl hs ⊢
  rw [hl2'] at hsv ⊢
  have b0 : Below w.heap.size w ((w.alloc (.cells #[.slice p1 l1 q1, .int .i64 cx] 117)).alloc (.cells #[.slice p2 l2 q2, .int .i64 co] 117)) := ((Below.refl _ _).alloc (Nat.le_refl _) _).alloc (by simp) _
  have k0 : ((w.alloc (.cells #[.slice p1 l1 q1, .int .i64 cx] 117)).alloc (.cells #[.slice p2 l2 q2, .int .i64 co] 117)).heap[w.heap.size]? = some (.cells #[.slice p1 l1 q1, .int .i64 cx] 117 (0, 0)) := by
    rw [Lib.alloc_old _ _ _ (by simp)]; exact heap_alloc_new w _
  have k1 : ((w.alloc (.cells #[.slice p1 l1 q1, .int .i64 cx] 117)).alloc (.cells #[.slice p2 l2 q2, .int .i64 co] 117)).heap[w.heap.size + 1]? = some (.cells #[.slice p2 l2 q2, .int .i64 co] 117 (0, 0)) := by
    have := heap_alloc_new (w.alloc (.cells #[.slice p1 l1 q1, .int .i64 cx] 117)) (.cells #[.slice p2 l2 q2, .int .i64 co] 117)
    rw [World.size_alloc] at this
    exact this
  have cs := HS.out _ _ _ (hs.below b0) (hsv.below b0)
  rw [hd] at cs
  clear hs0 hrow hx ho hpv hcx hco e1 e2 hs hsv hl1 hl2 hl1' hl2' HS hd hA hj
  have a0 := as_r_r
  have a1 := as_r_i
  go_enter Tryz.func87, Tryz.ntmps87
  go_wp2_with fail
  refine cl.mono ?_; rintro e w1 ⟨rfl, rfl⟩
  clear cl
  go_wp2_with fail
  refine cs.mono ?_; rintro r w2 ⟨rfl, hb2⟩
  have b2 := b0.trans (hb2.mono b0.size)
  have m0 := (hb2.block _ (by simp only [World.size_alloc]; omega)).trans k0
  have m1 := (hb2.block _ (by simp only [World.size_alloc]; omega)).trans k1
  have d0 : w2.cell? ⟨w1.heap.size, 0, none⟩ = some (.slice p1 l1 q1) := by rw [cell_of_heap m0]; rfl
  have d1 : w2.cell? ⟨w1.heap.size, 1, none⟩ = some (.int .i64 cx) := by rw [cell_of_heap m0]; rfl
  have d2 : w2.cell? ⟨w1.heap.size + 1, 1, none⟩ = some (.int .i64 co) := by rw [cell_of_heap m1]; rfl
  have f1 : w2.frozen? ⟨w1.heap.size, 1, none⟩ = false := frozen_of_heap m0 1
  clear cs b0 hb2 k0 k1 m0 m1
  go_wp2
  go_ret2
  exact ⟨rfl, b2.setCell (Nat.le_refl _) _⟩
set_option maxHeartbeats 4000000 in
set_option maxRecDepth 100000 in
theorem join_yes11 {B g : Nat} {c0 c1 pv c3 : Value} {l : List UInt8} (x o : Op5) (s sv : Value) (FL : List Value) (w : World) (h : SbE w B g c0 c1 pv c3 l) (hrow : w.ownsRow B 87 1 pv (FL ++ [pieceQ x s]).length (FL ++ [pieceQ x s])) (hlen : FL.length ≤ 4194304) (hx : x.k = 1) (ho : o.k = 1) (hA : x.A = o.A) (hs : RowA w s x.A) (hsv : RowA w sv o.A) (hl1 : x.A.length ≤ 2097152) (hl2 : o.A.length ≤ 2097152) (hl : l = [] ∨ l = x.t.data.toList) (ix : Ins x) (io : Ins o) (hsz : x.t.size + o.t.size ≤ 16777216) (hB : B ≤ w.heap.size) :
    Calls Tryz.prog 87 #[.pointer (some ⟨g, 0, none⟩), pieceQ o sv] w fun e w' => e = .returned (.tuple #[pieceQ (jnO x o) s, .bool true]) ∧ SbE w' B g c0 c1 pv c3 (x.t ++ o.t).data.toList ∧ FrB B (fun k => k ≠ g) w w' := by
  have cl := last_one pv FL (pieceQ x s) B w hrow hlen
  have HS : Hid (SameC x o) := fun W v v' h1 h2 => same_any' v v' x.A o.A W h1 h2 (by omega) (by omega)
  have HJ : Hid (∀ W, Below w.heap.size w W → Calls Tryz.prog 97 #[.pointer (some ⟨g, 0, none⟩), .string x.t, .string o.t] W fun e w' => e = .returned (.string (x.t ++ o.t)) ∧ SbE w' B g c0 c1 pv c3 (x.t ++ o.t).data.toList ∧ FrB B (fun k => k ≠ g) W w') := fun W hW =>
    joinText_any B g c0 c1 pv c3 l x.t o.t W (h.below hW) hl (isEmp_size ix.full) hsz (Nat.le_trans hB hW.size)
  have hgw : g < w.heap.size := by obtain ⟨_, _, h⟩ := h; exact h.lt
  obtain ⟨p, cap, hpv⟩ := own_slice hrow
  obtain ⟨av, jv, hs0⟩ := h
  have c2 : w.cell? ⟨g, 2, none⟩ = some pv := by rw [cell_of_heap hs0.at_]; rfl
  have hd : decide (x.A = o.A) = true := decide_eq_true hA
  have hj : (jnO x o).t = x.t ++ o.t := rfl
  have hn := jnO_len ix.utf io.utf
  have hvx := (valid_text x.t ix.utf).2.2
  have hvo := (valid_text o.t io.utf).2.2
  rw [pieceQ_1 (show (jnO x o).k = 1 from hx), hj, hn]
  obtain ⟨nx, hnx⟩ : ∃ z : Int, ((scs x.t.data.toList).length : Int) = z := ⟨_, rfl⟩
  obtain ⟨no, hno⟩ : ∃ z : Int, ((scs o.t.data.toList).length : Int) = z := ⟨_, rfl⟩
  have hn1 : 0 ≤ nx ∧ nx ≤ 16777216 := by omega
  have hn2 : 0 ≤ no ∧ no ≤ 16777216 := by omega
  obtain ⟨hn1, hn3⟩ := hn1
  obtain ⟨hn2, hn4⟩ := hn2
  rw [hnx, hno]
  obtain ⟨tj, htj⟩ : ∃ z, x.t ++ o.t = z := ⟨_, rfl⟩
  rw [htj] at HJ ⊢
  obtain ⟨tx, htx⟩ : ∃ z, x.t = z := ⟨_, rfl⟩
  obtain ⟨tO, htO⟩ : ∃ z, o.t = z := ⟨_, rfl⟩
  rw [htx, htO] at HJ
  obtain ⟨p1, q1, e1, _⟩ := hs.val
  obtain ⟨p2, q2, e2, _⟩ := hsv.val
  rw [e1] at hs
  rw [e2] at hsv
  obtain ⟨l1, hl1'⟩ : ∃ z, x.A.length = z := ⟨_, rfl⟩
  obtain ⟨l2, hl2'⟩ : ∃ z, o.A.length = z := ⟨_, rfl⟩
  rw [pieceQ_1 hx, hnx, htx, e1] at cl
  rw [pieceQ_1 ho, hno, htO, e1, e2]
  rw [hl1'] at cl hs ⊢
  rw [hl2'] at hsv ⊢
  have b0 : Below w.heap.size w ((w.alloc (.cells #[.slice p1 l1 q1, .string tx, .int .i64 nx] 125)).alloc (.cells #[.slice p2 l2 q2, .string tO, .int .i64 no] 125)) := ((Below.refl _ _).alloc (Nat.le_refl _) _).alloc (by simp) _
  have k0 : ((w.alloc (.cells #[.slice p1 l1 q1, .string tx, .int .i64 nx] 125)).alloc (.cells #[.slice p2 l2 q2, .string tO, .int .i64 no] 125)).heap[w.heap.size]? = some (.cells #[.slice p1 l1 q1, .string tx, .int .i64 nx] 125 (0, 0)) := by
    rw [Lib.alloc_old _ _ _ (by simp)]; exact heap_alloc_new w _
  have k1 : ((w.alloc (.cells #[.slice p1 l1 q1, .string tx, .int .i64 nx] 125)).alloc (.cells #[.slice p2 l2 q2, .string tO, .int .i64 no] 125)).heap[w.heap.size + 1]? = some (.cells #[.slice p2 l2 q2, .string tO, .int .i64 no] 125 (0, 0)) := by
    have := heap_alloc_new (w.alloc (.cells #[.slice p1 l1 q1, .string tx, .int .i64 nx] 125)) (.cells #[.slice p2 l2 q2, .string tO, .int .i64 no] 125)
    rw [World.size_alloc] at this
    exact this
  have cs := HS.out _ _ _ (hs.below b0) (hsv.below b0)
  rw [hd] at cs
  have HB : Hid (B ≤ w.heap.size ∧ g < w.heap.size) := ⟨hB, hgw⟩
  clear hs0 hrow hx ho hpv e1 e2 hs hsv hl1 hl2 hl1' hl2' HS hd hA hj hn hvx hvo hnx hno htj htx htO ix io hsz hl hB hgw
  have a0 := as_i_i
  go_enter Tryz.func87, Tryz.ntmps87
  go_wp2_with fail
  refine cl.mono ?_; rintro e w1 ⟨rfl, rfl⟩
  clear cl
  go_wp2_with fail
  refine cs.mono ?_; rintro r w2 ⟨rfl, hb2⟩
  have b2 := b0.trans (hb2.mono b0.size)
  have m0 := (hb2.block _ (by simp only [World.size_alloc]; omega)).trans k0
  have m1 := (hb2.block _ (by simp only [World.size_alloc]; omega)).trans k1
  have d1 : w2.cell? ⟨w1.heap.size, 1, none⟩ = some (.string tx) := by rw [cell_of_heap m0]; rfl
  have d2 : w2.cell? ⟨w1.heap.size + 1, 1, none⟩ = some (.string tO) := by rw [cell_of_heap m1]; rfl
  have cj := HJ.out _ b2
  have HM : Hid (w2.heap[w1.heap.size]? = _ ∧ w2.heap[w1.heap.size + 1]? = _ ∧ Below w1.heap.size w1 w2) := ⟨m0, m1, b2⟩
  clear cs b0 hb2 k0 k1 HJ m0 m1 b2
  go_wp2_with fail
  refine cj.mono ?_; rintro r w3 ⟨rfl, h3, f3⟩
  have m0 := f3.kept _ _ HM.out.1 (by have := HB.out.2; omega) (fun c fz e => by simp only [Obj.cells.injEq] at e; exact absurd e.2.1 (by decide))
  have m1 := f3.kept _ _ HM.out.2.1 (by have := HB.out.2; omega) (fun c fz e => by simp only [Obj.cells.injEq] at e; exact absurd e.2.1 (by decide))
  have e0 : w3.cell? ⟨w1.heap.size, 0, none⟩ = some (.slice p1 l1 q1) := by rw [cell_of_heap m0]; rfl
  have e1 : w3.cell? ⟨w1.heap.size, 1, none⟩ = some (.string tx) := by rw [cell_of_heap m0]; rfl
  have e2 : w3.cell? ⟨w1.heap.size, 2, none⟩ = some (.int .i64 nx) := by rw [cell_of_heap m0]; rfl
  have e3 : w3.cell? ⟨w1.heap.size + 1, 2, none⟩ = some (.int .i64 no) := by rw [cell_of_heap m1]; rfl
  have g1 : w3.frozen? ⟨w1.heap.size, 1, none⟩ = false := frozen_of_heap m0 1
  have g2 : w3.frozen? ⟨w1.heap.size, 2, none⟩ = false := frozen_of_heap m0 2
  have m0' : (w3.setCell ⟨w1.heap.size, 1, none⟩ (.string tj)).heap[w1.heap.size]? = some (.cells #[.slice p1 l1 q1, .string tj, .int .i64 nx] 125 (0, 0)) := by rw [heap_set_at _ _ _ _ _ _ _ m0]; rfl
  have HS3 : Hid (SbE ((w3.setCell ⟨w1.heap.size, 1, none⟩ (.string tj)).setCell ⟨w1.heap.size, 2, none⟩ (.int .i64 (nx + no))) B g c0 c1 pv c3 tj.data.toList) := (h3.set_other m0 (by decide) (by decide) _).set_other m0' (by decide) (by decide) _
  have HF3 : Hid (FrB B (fun k => k ≠ g) w1 ((w3.setCell ⟨w1.heap.size, 1, none⟩ (.string tj)).setCell ⟨w1.heap.size, 2, none⟩ (.int .i64 (nx + no)))) := by
    have h0 : FrB B (fun k => k ≠ g ∧ k < w1.heap.size) w1 w3 := (FrB.of_below HM.out.2.2 HB.out.1).trans (f3.mono fun k hk => hk.1)
    have h1 := (h0.setCell m0 (by decide) HB.out.1 (by omega) (j := 1) (.string tj)).setCell m0' (by decide) HB.out.1 (by omega) (j := 2) (.int .i64 (nx + no))
    exact ⟨h1.below, fun k o ho hk hn => h1.kept k o ho ⟨hk, (Array.getElem?_eq_some_iff.1 ho).1⟩ hn, h1.keepA⟩
  clear cj h3 f3 m0 m1 m0' d1 d2 HM HB
  go_wp2
  go_ret2
  exact ⟨rfl, HS3.out, HF3.out⟩
end Go.Proofs.YtfllomfjhkgaoaaGreatDoor

/- build: add and settle: a piece put behind the others. -/
namespace Go.Proofs.YtfllomfjhkgaoaaGreatDoor
open Go Go.RowKit Go.Lib
set_option linter.unusedVariables false

/-- append(own, one piece), with where the new slice lies. -/
theorem wpList_append_piAt {w : World} {ops : Array Oper} {rest : List Oper} {o : Oper} {a : Act} {Q : Exit → Act → World → Prop} (hgd : o.guard = none) (s x : Operand)
    (ho : o.op = .call { callee := .builtin .append, args := #[s, x], argTypes := #[78, 78] })
    (base : Nat) (v : Value) (P : List Value) (hs : a.eval s = v) (hown : OwnI w base v P)
    (b c : Nat) (u : Value) (hx : a.eval x = .slice (some ⟨b, 0, none⟩) 1 c) (hu : w.cell? ⟨b, 0, none⟩ = some u) (h1 : u.oneCell' = true)
    (h63 : P.length ≤ 8388608) (hbase : base ≤ w.heap.size)
    (h : ∀ v' w', OwnI w' base v' (P ++ [u]) → w.grownBy w' v.ownBlock → (v'.ownBlock = v.ownBlock ∨ v'.ownBlock = some w.heap.size) → wpList Tryz.prog ops Q rest (a.put o.dst v') w') : wpList Tryz.prog ops Q (o :: rest) a w := by
  obtain ⟨i, z, hi, hz, hz1, hz2, hz3⟩ := infoPi
  exact wpList_append_own_at _ hgd s x _ ho base 87 i z 1 16 Tryz.underlying78 hi hz hz1 hz2 hz3 (by decide) v P.length P hs hown ⟨b, 0, none⟩ 1 c [u] hx rfl (by intro j y hj; cases j with | zero => (simp at hj; subst hj; exact hu) | succ j => simp at hj) (fun y hy => by rw [List.mem_singleton.1 hy]; exact h1) (by unfold maxLen; omega) (by omega) hbase (fun v' w' h1 h2 _ h3 => h v' w' (by show w'.ownsRow _ _ _ _ _ _; rw [List.length_append]; exact h1) h2 h3)

/-- A builder in memory: what it has gathered. -/
structure Bld (w : World) (B : Nat) (D : Nat → Prop) (g : Nat) (b r : Int) (P : List Op5) (d : Int) (pv : Value) (PL : List Value) (l : List UInt8) : Prop where
  sb : SbE w B g (.int .i64 b) (.int .i64 r) pv (.int .i64 d) l
  nd : ¬ D g
  row : OwnI w B pv PL
  rnd : ∀ k, pv.ownBlock = some k → ¬ D k
  pie : PieD w B PL P
  txt : l = [] ∨ ∃ F x, P = F ++ [x] ∧ x.k = 1 ∧ l = x.t.data.toList
def BldE (w : World) (B : Nat) (D : Nat → Prop) (g : Nat) (b r : Int) (P : List Op5) (d : Int) : Prop := ∃ pv PL l, Bld w B D g b r P d pv PL l

theorem SbE.cells {w : World} {B g : Nat} {c0 c1 c2 c3 : Value} {l : List UInt8} (h : SbE w B g c0 c1 c2 c3 l) : w.cell? ⟨g, 0, none⟩ = some c0 ∧ w.cell? ⟨g, 1, none⟩ = some c1 ∧ w.cell? ⟨g, 2, none⟩ = some c2 ∧ w.cell? ⟨g, 3, none⟩ = some c3 ∧ (∀ j, w.frozen? ⟨g, j, none⟩ = false) ∧ B ≤ g ∧ ∃ cs, w.heap[g]? = some (.cells cs 84 (0, 0)) := by
  obtain ⟨av, jv, h⟩ := h
  refine ⟨?_, ?_, ?_, ?_, fun j => frozen_of_heap h.at_ j, h.lo, _, h.at_⟩ <;> (rw [cell_of_heap h.at_]; rfl)
theorem SbE.lt {w : World} {B g : Nat} {c0 c1 c2 c3 : Value} {l : List UInt8} (h : SbE w B g c0 c1 c2 c3 l) : g < w.heap.size := by obtain ⟨av, jv, h⟩ := h; exact h.lt
theorem SbE.set0 {w : World} {B g : Nat} {c0 c1 c2 c3 : Value} {l : List UInt8} (h : SbE w B g c0 c1 c2 c3 l) (u : Value) : SbE (w.setCell ⟨g, 0, none⟩ u) B g u c1 c2 c3 l := by
  obtain ⟨av, jv, h⟩ := h
  exact ⟨av, jv, h.lo, by rw [heap_set_at _ _ _ _ _ _ _ h.at_]; rfl, rowF_same h.buf fun k hk => Below.heap_setCell _ _ _ _ (fun e => h.ne (by rw [hk, e])), h.adr⟩
theorem SbE.set1 {w : World} {B g : Nat} {c0 c1 c2 c3 : Value} {l : List UInt8} (h : SbE w B g c0 c1 c2 c3 l) (u : Value) : SbE (w.setCell ⟨g, 1, none⟩ u) B g c0 u c2 c3 l := by
  obtain ⟨av, jv, h⟩ := h
  exact ⟨av, jv, h.lo, by rw [heap_set_at _ _ _ _ _ _ _ h.at_]; rfl, rowF_same h.buf fun k hk => Below.heap_setCell _ _ _ _ (fun e => h.ne (by rw [hk, e])), h.adr⟩
theorem SbE.set2 {w : World} {B g : Nat} {c0 c1 c2 c3 : Value} {l : List UInt8} (h : SbE w B g c0 c1 c2 c3 l) (u : Value) : SbE (w.setCell ⟨g, 2, none⟩ u) B g c0 c1 u c3 l := by
  obtain ⟨av, jv, h⟩ := h
  exact ⟨av, jv, h.lo, by rw [heap_set_at _ _ _ _ _ _ _ h.at_]; rfl, rowF_same h.buf fun k hk => Below.heap_setCell _ _ _ _ (fun e => h.ne (by rw [hk, e])), h.adr⟩
theorem SbE.set3 {w : World} {B g : Nat} {c0 c1 c2 c3 : Value} {l : List UInt8} (h : SbE w B g c0 c1 c2 c3 l) (u : Value) : SbE (w.setCell ⟨g, 3, none⟩ u) B g c0 c1 c2 u l := by
  obtain ⟨av, jv, h⟩ := h
  exact ⟨av, jv, h.lo, by rw [heap_set_at _ _ _ _ _ _ _ h.at_]; rfl, rowF_same h.buf fun k hk => Below.heap_setCell _ _ _ _ (fun e => h.ne (by rw [hk, e])), h.adr⟩
theorem SbE.grown {w w' : World} {B g : Nat} {c0 c1 c2 c3 : Value} {l : List UInt8} {row : Option Nat} (h : SbE w B g c0 c1 c2 c3 l) (hg : w.grownBy w' row) (hr : ∀ k, row = some k → ∃ cs T fz, w.heap[k]? = some (.cells cs T fz) ∧ T ≠ 84 ∧ T ≠ 5) : SbE w' B g c0 c1 c2 c3 l := by
  obtain ⟨av, jv, h⟩ := h
  have key : ∀ (k : Nat) (cs : Array Value) (T : TypeId) (fz : Nat × Nat), w.heap[k]? = some (Obj.cells cs T fz) → T = 84 ∨ T = 5 → w'.heap[k]? = w.heap[k]? := fun k cs T fz hk hT => by
    refine hg.block k (Array.getElem?_eq_some_iff.1 hk).1 fun e => ?_
    obtain ⟨cs', T', fz', h1, h2, h3⟩ := hr k e.symm
    rw [hk] at h1
    simp only [Option.some.injEq, Obj.cells.injEq] at h1
    rcases hT with hT | hT
    · exact h2 (h1.2.1 ▸ hT)
    · exact h3 (h1.2.1 ▸ hT)
  refine ⟨av, jv, h.lo, (key _ _ _ _ h.at_ (Or.inl rfl)).trans h.at_, rowF_same h.buf fun k hk => ?_, h.adr⟩
  rcases h.buf.2 with ⟨rfl, _⟩ | ⟨g', cap, cur, fz, rfl, _, hgg, _⟩
  · cases hk
  · simp only [Value.ownBlock, Option.some.injEq] at hk
    obtain rfl := hk
    exact key _ _ _ _ hgg (Or.inr rfl)
theorem own_ne {w : World} {B g : Nat} {v : Value} {n : Nat} {PL : List Value} {cs : Array Value} {fz : Nat × Nat} (h : w.ownsRow B 87 1 v n PL) (hg : w.heap[g]? = some (.cells cs 84 fz)) : v.ownBlock ≠ some g := fun e => by
  obtain ⟨_, cur, h2⟩ := owns_block h g e
  rw [h2] at hg
  simp only [Option.some.injEq, Obj.cells.injEq] at hg
  exact absurd hg.2.1 (by decide)
theorem Bld.below {w w' : World} {B : Nat} {D : Nat → Prop} {g : Nat} {b r : Int} {P : List Op5} {d : Int} {pv : Value} {PL : List Value} {l : List UInt8} (h : Bld w B D g b r P d pv PL l) (hb : Below w.heap.size w w') : Bld w' B D g b r P d pv PL l :=
  ⟨h.sb.below hb, h.nd, owns_below h.row hb, h.rnd, h.pie.below hb, h.txt⟩
/-- Rows of pieces stand while the builder's own block is written. -/
theorem FrB.rowI {w w' : World} {B g : Nat} {v : Value} {n : Nat} {PL : List Value} {cs : Array Value} {fz : Nat × Nat} (f : FrB B (fun k => k ≠ g) w w') (h : w.ownsRow B 87 1 v n PL) (hg : w.heap[g]? = some (.cells cs 84 fz)) : w'.ownsRow B 87 1 v n PL :=
  owns_same h fun k hk => by
    obtain ⟨_, cur, h2⟩ := owns_block h k hk
    rw [h2]
    exact f.kept k _ h2 (fun e => own_ne h hg (by rw [hk, e])) (fun c fz e => by simp only [Obj.cells.injEq] at e; exact absurd e.2.1 (by decide))

set_option maxHeartbeats 4000000 in
set_option maxRecDepth 100000 in
theorem add_app {B g : Nat} {D : Nat → Prop} {b r : Int} {P : List Op5} {d : Int} {pv : Value} {PL : List Value} {l : List UInt8} (o : Op5) (sv : Value) (w : World) (h : Bld w B D g b r P d pv PL l) (hsv : OwnA w B sv o.A) (hD : ∀ k, D k → k < w.heap.size) (hl : P.length ≤ 4194304)
    (cj : Calls Tryz.prog 87 #[.pointer (some ⟨g, 0, none⟩), pieceQ o sv] w fun e w' => e = .returned (.tuple #[.nilIface, .bool false]) ∧ Below w.heap.size w w') :
    Calls Tryz.prog 77 #[.pointer (some ⟨g, 0, none⟩), pieceQ o sv] w fun e w' => e = .returned (.tuple #[]) ∧ BldE w' B D g b r (P ++ [o]) d ∧ FrB B D w w' := by
  have hPL : PL.length ≤ 8388608 := by rw [forall2_len h.pie]; omega
  have hw : B ≤ w.heap.size := by have := h.sb.lt; have := h.sb.cells.2.2.2.2.2.1; omega
  obtain ⟨u, y, hux⟩ := pieceQ_if o sv
  have HX : Hid (pieceQ o sv = .iface u y) := hux
  have HH : Hid (Bld w B D g b r P d pv PL l ∧ OwnA w B sv o.A ∧ (∀ k, D k → k < w.heap.size) ∧ B ≤ w.heap.size) := ⟨h, hsv, hD, hw⟩
  rw [hux] at cj ⊢
  clear h hsv hD hl hux hw
  go_enter Tryz.func77, Tryz.ntmps77
  go_wp2_with fail
  refine cj.mono ?_; rintro e w1 ⟨rfl, hb1⟩
  have H1 := HH.out.1.below hb1
  have cr := sbReset_any B g _ _ _ _ _ w1 H1.sb
  have HK : Hid (Bld w1 B D g b r P d pv PL l ∧ Below w.heap.size w w1) := ⟨H1, hb1⟩
  clear cj hb1 H1
  go_wp2_with fail
  refine cr.mono ?_; rintro e w2 ⟨rfl, h2, f2⟩
  obtain ⟨_, _, q2, _, fz2, hBg, cs2, hk2⟩ := h2.cells
  obtain ⟨_, _, _, _, _, _, cs1, hk1⟩ := HK.out.1.sb.cells
  have r2 := f2.rowI HK.out.1.row hk1
  have p2 : PieD w2 B PL P := HK.out.1.pie.keep f2.keepA
  have s2 : OwnA w2 B sv o.A := keepA_own (owns_below HH.out.2.1 HK.out.2) f2.keepA
  have F2 : FrB B D w w2 := (FrB.of_below HK.out.2 HH.out.2.2.2).trans (f2.mono fun k hk e => HH.out.1.nd (e ▸ hk))
  have ba : Below w2.heap.size w2 (w2.alloc (.cells #[.iface u y] 87)) := (Below.refl _ _).alloc (Nat.le_refl _) _
  have hB2 : B ≤ w2.heap.size := Nat.le_trans HH.out.2.2.2 F2.below.size
  have HG : Hid (SbE (w2.alloc (.cells #[.iface u y] 87)) B g (.int .i64 b) (.int .i64 r) pv (.int .i64 d) [] ∧ PieD (w2.alloc (.cells #[.iface u y] 87)) B PL P ∧ OwnA (w2.alloc (.cells #[.iface u y] 87)) B sv o.A ∧ FrB B D w (w2.alloc (.cells #[.iface u y] 87)) ∧ B ≤ g ∧ w.heap.size ≤ w2.heap.size) := ⟨h2.below ba, p2.below ba, owns_below s2 ba, F2.alloc hB2 _, hBg, F2.below.size⟩
  have HR : OwnI (w2.alloc (.cells #[.iface u y] 87)) B pv PL := owns_below r2 ba
  have hu6 : (w2.alloc (.cells #[.iface u y] 87)).cell? ⟨w2.heap.size, 0, none⟩ = some (.iface u y) := by simp
  have hbs : B ≤ (w2.alloc (.cells #[.iface u y] 87)).heap.size := Nat.le_trans hB2 ba.size
  have HKR : Hid (OwnI (w2.alloc (.cells #[.iface u y] 87)) B pv PL) := HR
  clear cr h2 f2 r2 p2 s2 F2 hk1 hk2 ba HK HR
  have HW : Hid (∀ (p8 : Option Addr) (c8 : Nat) (w8 : World), OwnI w8 B (.slice p8 (PL ++ [Value.iface u y]).length c8) (PL ++ [.iface u y]) → (w2.alloc (.cells #[.iface u y] 87)).grownBy w8 pv.ownBlock → ((Value.slice p8 (PL ++ [Value.iface u y]).length c8).ownBlock = pv.ownBlock ∨ (Value.slice p8 (PL ++ [Value.iface u y]).length c8).ownBlock = some (w2.alloc (.cells #[.iface u y] 87)).heap.size) →
      w8.cell? ⟨g, 2, none⟩ = some pv ∧ w8.frozen? ⟨g, 2, none⟩ = false ∧ BldE (w8.setCell ⟨g, 2, none⟩ (.slice p8 (PL ++ [Value.iface u y]).length c8)) B D g b r (P ++ [o]) d ∧ FrB B D w (w8.setCell ⟨g, 2, none⟩ (.slice p8 (PL ++ [Value.iface u y]).length c8))) := fun p8 c8 w8 z1 z4 z5 => by
    have hrow : ∀ k, pv.ownBlock = some k → ∃ cs T fz, (w2.alloc (.cells #[.iface u y] 87)).heap[k]? = some (.cells cs T fz) ∧ T ≠ 84 ∧ T ≠ 5 := fun k hk => by
      obtain ⟨_, cur, h2⟩ := owns_block HKR.out k hk
      exact ⟨cur, _, _, h2, by decide, by decide⟩
    obtain ⟨y1, y2, y3, y4, y5, y6⟩ := HG.out
    have z2 := y1.grown z4 hrow
    have z3 := keepA_grownI HKR.out z4
    obtain ⟨_, _, m2, _, mf, _, cs8, hk8⟩ := z2.cells
    have ne8 := own_ne z1 hk8
    refine ⟨m2, mf 2, ⟨_, _, [], z2.set2 _, HH.out.1.nd, ownsRow_setCell_other z1 ne8 _, fun k hk => ?_, ?_, Or.inl rfl⟩, ?_⟩
    · rcases z5 with e | e
      · exact HH.out.1.rnd k (by rw [← e]; exact hk)
      · intro hd
        rw [e] at hk
        have := HH.out.2.2.1 k hd
        simp only [Option.some.injEq, World.size_alloc] at hk
        omega
    · have hA : KeepA w8 (w8.setCell ⟨g, 2, none⟩ (.slice p8 (PL ++ [Value.iface u y]).length c8)) := ((FrB.refl B (fun k => k ≠ g) w8).setCell hk8 (by decide) y5 (by simp) _).keepA
      exact PieD.keep (forall2_append (y2.keep z3) (.cons ⟨sv, HX.out.symm, keepA_own y3 z3⟩ .nil)) hA
    · refine (y4.grown z4 (Nat.le_trans HH.out.2.2.2 (by rw [World.size_alloc]; omega)) fun k hk => ?_).setCell hk8 (by decide) y5 HH.out.1.nd _
      obtain ⟨hB, cur, h2⟩ := owns_block HKR.out k hk
      exact ⟨hB, cur, _, _, h2, by decide, fun hd => absurd hd (HH.out.1.rnd k hk)⟩
  clear HG HH HX hBg hB2
  go_wp2_with (at_builtin; refine wpList_append_piAt rfl (.tmp 33) (.tmp 35) rfl B pv PL rfl HKR.out w2.heap.size 1 (.iface u y) rfl hu6 rfl hPL hbs ?_; intro v8 w8 own8 gr8 at8; obtain ⟨p8, c8, rfl⟩ := own_slice own8; obtain ⟨m2, mf2, hq⟩ := HW.out p8 c8 w8 own8 gr8 at8; have HQ : Hid _ := hq; clear own8 gr8 at8 hq HW hu6 q2 HKR)
  go_end0
  refine ⟨rfl, ?_⟩
  have hq := HQ.out
  rw [show (PL ++ [Value.iface u y]).length = PL.length + 1 by simp] at hq
  exact hq
set_option maxHeartbeats 4000000 in
set_option maxRecDepth 100000 in
theorem add_set {B g : Nat} {D : Nat → Prop} {b r : Int} {F : List Op5} {x x' : Op5} {d : Int} {pv : Value} {PL : List Value} {l : List UInt8} (o : Op5) (s sv : Value) (FL : List Value) (w : World) (h : Bld w B D g b r (F ++ [x]) d pv PL l) (hPL : PL = FL ++ [pieceQ x s]) (hF : PieD w B FL F) (hs : OwnA w B s x.A) (hD : ∀ k, D k → k < w.heap.size) (hl : F.length ≤ 4194304) (hA : x'.A = x.A)
    (cj : Calls Tryz.prog 87 #[.pointer (some ⟨g, 0, none⟩), pieceQ o sv] w fun e w' => e = .returned (.tuple #[pieceQ x' s, .bool true]) ∧ (∃ l', SbE w' B g (.int .i64 b) (.int .i64 r) pv (.int .i64 d) l' ∧ (l' = [] ∨ (x'.k = 1 ∧ l' = x'.t.data.toList))) ∧ FrB B (fun k => k ≠ g) w w') :
    Calls Tryz.prog 77 #[.pointer (some ⟨g, 0, none⟩), pieceQ o sv] w fun e w' => e = .returned (.tuple #[]) ∧ BldE w' B D g b r (F ++ [x']) d ∧ FrB B D w w' := by
  obtain ⟨u, y, hux⟩ := pieceQ_if o sv
  obtain ⟨u', y', hux'⟩ := pieceQ_if x' s
  have HX : Hid (pieceQ x' s = .iface u' y') := hux'
  subst hPL
  have hrow := h.row
  obtain ⟨pb, cap, hpv⟩ : ∃ pb cap, pv = .slice (some ⟨pb, 0, none⟩) (FL.length + 1) cap := by
    obtain ⟨q, c, z, e, _⟩ := own_cell hrow FL.length (by simp)
    exact ⟨q, c, by rw [e]; simp⟩
  subst hpv
  obtain ⟨n, hn⟩ : ∃ n, FL.length = n := ⟨_, rfl⟩
  have hn1 : (FL ++ [pieceQ x s]).length = n + 1 := by simp [hn]
  have hnl : n ≤ 4194304 := by rw [← hn, forall2_len hF]; exact hl
  have HH : Hid (Bld w B D g b r (F ++ [x]) d (.slice (some ⟨pb, 0, none⟩) (FL.length + 1) cap) (FL ++ [pieceQ x s]) l ∧ PieD w B FL F ∧ OwnA w B s x.A ∧ FL.length = n) := ⟨h, hF, hs, hn⟩
  rw [hn] at cj
  rw [hux, hux'] at cj
  rw [hux]
  clear h hF hs hD hl hux hux' hrow hn1
  have hz : ((n : Int) + 1) - 1 = (n : Int) := by omega
  go_enter Tryz.func77, Tryz.ntmps77
  go_wp2_with fail
  refine cj.mono ?_; rintro e w1 ⟨rfl, ⟨l', h1, hl'⟩, f1⟩
  obtain ⟨_, _, _, _, _, _, cs0, hk0⟩ := HH.out.1.sb.cells
  obtain ⟨_, _, q2, _, _, hBg, cs1, hk1⟩ := h1.cells
  have r1 := f1.rowI HH.out.1.row hk0
  have hpb : pb ≠ g := fun e => own_ne r1 hk1 (by rw [← e]; rfl)
  obtain ⟨hBpb, cur, hkp⟩ := owns_block r1 pb rfl
  have qc : w1.cell? ⟨pb, n, none⟩ = some (pieceQ x s) := by
    have := r1.cells (g := pb) rfl n (pieceQ x s) (by rw [← HH.out.2.2.2]; simp)
    rw [Addr.add_lit, Nat.zero_add] at this
    exact this
  have qf : w1.frozen? ⟨pb, n, none⟩ = false := frozen_of_heap hkp n
  obtain ⟨old, hold⟩ : ∃ z, pieceQ x s = z := ⟨_, rfl⟩
  have hoi : ∃ u z, old = .iface u z := by rw [← hold]; exact pieceQ_if x s
  rw [hold] at qc
  have HQ : Hid (BldE (w1.drew.setCell ⟨pb, n, none⟩ (.iface u' y')) B D g b r (F ++ [x']) d ∧ FrB B D w (w1.drew.setCell ⟨pb, n, none⟩ (.iface u' y'))) := by
    have hlen : (FL ++ [pieceQ x s]).length = n + 1 := by simp [HH.out.2.2.2]
    have r1' : w1.drew.ownsRow B 87 1 (.slice (some ⟨pb, 0, none⟩) (n + 1) cap) (n + 1) (FL ++ [pieceQ x s]) := by
      have := r1
      rw [HH.out.2.2.2] at this
      rw [hlen] at this
      exact this
    have st := (r1'.stored n (.iface u' y')).1
    have e1 : (FL ++ [pieceQ x s]).set n (.iface u' y') = FL ++ [.iface u' y'] := by rw [← HH.out.2.2.2]; simp
    rw [e1] at st
    have hkp' : w1.drew.heap[pb]? = some (.cells cur 87 (0, 0)) := hkp
    have S1 : SbE w1.drew B g (.int .i64 b) (.int .i64 r) (.slice (some ⟨pb, 0, none⟩) (n + 1) cap) (.int .i64 d) l' := by obtain ⟨a1, a2, a3⟩ := h1; exact ⟨a1, a2, a3.lo, a3.at_, a3.buf, a3.adr⟩
    have hK : KeepA w1.drew (w1.drew.setCell ⟨pb, n, none⟩ (.iface u' y')) := ((FrB.refl B (fun _ => False) w1.drew).setCell hkp' (by decide) hBpb (by simp) _).keepA
    refine ⟨⟨.slice (some ⟨pb, 0, none⟩) (n + 1) cap, FL ++ [.iface u' y'], l', ?_, HH.out.1.nd, ?_, ?_, ?_, ?_⟩, ?_⟩
    · exact S1.set_other hkp' (by decide) (by decide) _
    · show World.ownsRow _ _ _ _ _ _ _
      rw [show (FL ++ [Value.iface u' y']).length = n + 1 by simp [HH.out.2.2.2]]
      exact st
    · have := HH.out.1.rnd
      exact fun k hk => this k hk
    · have p1 : PieD w1.drew B FL F := HH.out.2.1.keep f1.keepA
      have s1 : OwnA w1.drew B s x.A := keepA_own HH.out.2.2.1 f1.keepA
      exact PieD.keep (forall2_append p1 (.cons ⟨s, HX.out.symm, by rw [hA]; exact s1⟩ .nil)) hK
    · rcases hl' with e | ⟨e1, e2⟩
      · exact Or.inl e
      · exact Or.inr ⟨F, x', rfl, e1, e2⟩
    · have f2 : FrB B D w w1.drew := (f1.mono fun k hk e => HH.out.1.nd (e ▸ hk)).drew
      exact f2.setCell hkp' (by decide) hBpb (HH.out.1.rnd pb rfl) _
  have hpg : g ≠ pb := fun e => hpb e.symm
  obtain ⟨uo, zo, rfl⟩ := hoi
  clear cj h1 f1 r1 hkp hl' hk0 hk1 hold HH HX hA
  go_wp2
  go_region
  all_goals go_wp2
  all_goals (refine bodyPost_ret (results_none rfl _ _ _) rfl ?_; exact ⟨rfl, HQ.out⟩)
end Go.Proofs.YtfllomfjhkgaoaaGreatDoor
