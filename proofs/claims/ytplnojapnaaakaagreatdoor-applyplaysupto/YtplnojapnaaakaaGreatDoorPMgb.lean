/- The builder as plain data: its pieces, how many cells go behind them; what it ends in is the canonical list. A slice of operations among the arguments, with the letters of all its texts together. Deltas unit by unit: one behind the other, and one carried over another: what they do to cells. Two canonical lists that do the same to all long enough documents are one. Deltas unit by unit: inverses; lengths of what comes; compositions and carried deltas are well formed. The pieces of a cut text, purely. Deltas unit by unit: parts and turned parts; documents and their cells. A builder in memory: what stands while it is written; the strings.Builder that it bears. build: last, grow, joinText, join: the builder's own parts. build: join: the last piece and another as one. build: join, where both are texts or both are retains. build: add and settle: a piece put behind the others. build: grow: the lengths of what is gathered, with a piece. build: add, settle, gather: what the builder has behind them. -/
import Derived.Test.YtplnojapnaaakaaGreatDoorPMga
import Derived.Lib.FrozenHead2
import Derived.Lib.UnsafeStr
import Derived.Lib.OthersKept
import Derived.BigRegion
import Derived.OneCell
import Derived.Maps.AppendAt

/- The builder as plain data: its pieces, how many cells go behind them; what it ends in is the canonical list. -/
namespace Go.Proofs.YtplnojapnaaakaaGreatDoor
open Go Go.RowKit Go.Lib
set_option linter.unusedVariables false
/-- The pieces, what is deleted behind them put there. -/
def setB (s : List Op5 × Int) : List Op5 := if 0 < s.2 then s.1 ++ [delO s.2] else s.1
/-- One operation gathered. -/
def stB (s : List Op5 × Int) (o : Op5) : List Op5 × Int :=
  if o.k = 4 then (s.1, s.2 + o.c) else if o.k = 3 then (pushL (setB s) o, 0) else (pushL s.1 o, s.2)
/-- What the builder answers. -/
def finB (s : List Op5 × Int) : List Op5 := if 0 < s.2 then s.1 ++ [delO s.2] else trimL s.1
def bldR (E : List Op5) : List Op5 × Int := E.foldl stB ([], 0)

theorem push_del {P : List Op5} {n : Int} (h : ∀ F x, P = F ++ [x] → x.k ≠ 4) : pushL P (delO n) = P ++ [delO n] := by
  rcases List.eq_nil_or_concat P with rfl | ⟨F, x, rfl⟩
  · rfl
  · rw [List.concat_eq_append] at h ⊢
    exact push_apart (Or.inl (h F x rfl))
/-- What is so of the builder between two operations. -/
structure BSt (s : List Op5 × Int) : Prop where
  chn : Chn s.1 (fun k => k ≠ 4)
  gone : 0 ≤ s.2
theorem BSt.nil : BSt ([], 0) := ⟨⟨fun o ho => (by cases ho), rfl, fun F x e => (by simp at e)⟩, Int.le_refl 0⟩
theorem setB_chn {s : List Op5 × Int} (h : BSt s) : Chn (setB s) (fun _ => True) ∧ units (setB s) = units s.1 ++ List.replicate s.2.toNat .del := by
  unfold setB
  split
  · rename_i h0
    obtain ⟨q1, q2⟩ := push_chn h.chn (delO_wel h0) (fun k h4 e => absurd e h4)
    rw [push_del fun F x e => h.chn.last F x e] at q1 q2
    refine ⟨⟨q1.wel, q1.chain, fun _ _ _ => trivial⟩, ?_⟩
    rw [q2, unitsO_4 (show (delO s.2).k = 4 from rfl)]; rfl
  · rename_i h0
    refine ⟨⟨h.chn.wel, h.chn.chain, fun _ _ _ => trivial⟩, ?_⟩
    rw [show s.2.toNat = 0 by omega]; simp
theorem stB_st {s : List Op5 × Int} {o : Op5} (h : BSt s) (ho : Wel o) : BSt (stB s o) := by
  unfold stB
  rcases ho.kinds with hk | hk | hk | hk
  · rw [if_neg (by omega), if_neg (by omega)]
    obtain ⟨p1, _⟩ := push_chn h.chn ho (fun k h4 e => absurd e h4)
    exact ⟨⟨p1.wel, p1.chain, fun F x e => by have := p1.last F x e; omega⟩, h.gone⟩
  · rw [if_neg (by omega), if_neg (by omega)]
    obtain ⟨p1, _⟩ := push_chn h.chn ho (fun k h4 e => absurd e h4)
    exact ⟨⟨p1.wel, p1.chain, fun F x e => by have := p1.last F x e; omega⟩, h.gone⟩
  · rw [if_neg (by omega), if_pos hk]
    obtain ⟨p1, _⟩ := push_chn (setB_chn h).1 ho (fun k _ _ => Or.inl hk)
    exact ⟨⟨p1.wel, p1.chain, fun F x e => by have := p1.last F x e; omega⟩, Int.le_refl 0⟩
  · rw [if_pos hk]
    have := ho.count (Or.inr hk)
    exact ⟨h.chn, by have := h.gone; show 0 ≤ s.2 + o.c; omega⟩
theorem bldR_st {E : List Op5} : ∀ {s : List Op5 × Int}, BSt s → (∀ o ∈ E, Wel o) → BSt (E.foldl stB s) := by
  induction E with
  | nil => intro s h _; exact h
  | cons o r ih => intro s h hE; exact ih (stB_st h (hE o (List.mem_cons_self ..))) (fun x hx => hE x (List.mem_cons_of_mem _ hx))

/-- The reference's state and the builder's. -/
def mirB (c : List Op5 × List Op5 × Int) : List Op5 × Int := (c.2.1.foldl pushL c.1, c.2.2)
theorem mir_flush {c : List Op5 × List Op5 × Int} (h : BSt (mirB c)) : flushL c.1 c.2.1 c.2.2 = setB (mirB c) := by
  unfold flushL setB mirB at *
  split
  · exact push_del fun F x e => h.chn.last F x e
  · rfl
theorem mir_step {c : List Op5 × List Op5 × Int} {o : Op5} (h : BSt (mirB c)) (ho : Wel o) : mirB (stepC c o) = stB (mirB c) o := by
  unfold stepC stB
  rcases ho.kinds with hk | hk | hk | hk
  · rw [if_pos (Or.inl hk), if_neg (by omega), if_neg (by omega)]
    simp [mirB, List.foldl_append]
  · rw [if_pos (Or.inr hk), if_neg (by omega), if_neg (by omega)]
    simp [mirB, List.foldl_append]
  · rw [if_neg (by omega), if_neg (by omega), if_neg (by omega), if_pos hk, mir_flush h]; rfl
  · rw [if_neg (by omega), if_pos hk, if_pos hk]; rfl
theorem mir_run : ∀ (E : List Op5) (c : List Op5 × List Op5 × Int), BSt (mirB c) → (∀ o ∈ E, Wel o) → mirB (E.foldl stepC c) = E.foldl stB (mirB c)
  | [], c, _, _ => rfl
  | o :: r, c, h, hE => by
    have ho := hE o (List.mem_cons_self ..)
    have e := mir_step h ho
    show mirB (r.foldl stepC (stepC c o)) = r.foldl stB (stB (mirB c) o)
    rw [mir_run r (stepC c o) (by rw [e]; exact stB_st h ho) (fun x hx => hE x (List.mem_cons_of_mem _ hx)), e]
theorem trim_del (P : List Op5) (n : Int) : trimL (P ++ [delO n]) = P ++ [delO n] := by
  unfold trimL
  rw [List.getLast?_concat]
  simp only [show plainR (delO n) = false from rfl]
  rfl
/-- What the builder answers is the canonical list. -/
theorem finB_canon {E : List Op5} (h : ∀ o ∈ E, Wel o) : finB (bldR E) = canonL E := by
  have e : mirB (runC E) = bldR E := mir_run E ([], [], 0) BSt.nil h
  have hs : BSt (bldR E) := bldR_st BSt.nil h
  unfold canonL
  rw [mir_flush (by rw [e]; exact hs), e]
  unfold finB setB
  split
  · rw [trim_del]
  · rfl
theorem bldR_snoc (E : List Op5) (o : Op5) : bldR (E ++ [o]) = stB (bldR E) o := by unfold bldR; rw [List.foldl_append]; rfl
/-- How long the texts are. -/
def txtS (E : List Op5) : Nat := (E.map (·.t.size)).sum
theorem txtS_append (E F : List Op5) : txtS (E ++ F) = txtS E + txtS F := by unfold txtS; rw [List.map_append, List.sum_append]
theorem txtS_one (o : Op5) : txtS [o] = o.t.size := by simp [txtS]
theorem txtS_mem {E : List Op5} {o : Op5} (h : o ∈ E) : o.t.size ≤ txtS E := by
  induction E with
  | nil => cases h
  | cons x r ih =>
    have e : txtS (x :: r) = x.t.size + txtS r := by simp [txtS]
    rcases List.mem_cons.1 h with rfl | h
    · omega
    · have := ih h; omega
/-- An operation but for its text isn't too great. -/
structure FitA (o : Op5) : Prop where
  v : o.v.2.2.size ≤ 1048576
  A : ∀ q ∈ o.A, q.1.size ≤ 1048576 ∧ q.2.2.2.size ≤ 1048576
  n : o.A.length ≤ 1048576
theorem Fit.fitA {o : Op5} (h : Fit o) : FitA o := ⟨h.v, h.A, h.n⟩
theorem FitA.fit {o : Op5} (h : FitA o) (ht : o.t.size ≤ 8388608) : Fit o := ⟨ht, h.v, h.A, h.n⟩
theorem fitA_all {E : List Op5} (h : ∀ o ∈ E, FitA o) (ht : txtS E ≤ 8388608) : FitL E := fun o ho => (h o ho).fit (Nat.le_trans (txtS_mem ho) ht)
theorem delO_fitA (n : Int) : FitA (delO n) := ⟨by show (0 : Nat) ≤ _; omega, fun q hq => (by cases hq), by show (0 : Nat) ≤ _; omega⟩
theorem push_size (P : List Op5) (o : Op5) : txtS (pushL P o) = txtS P + o.t.size ∧ (pushL P o).length ≤ P.length + 1 := by
  rcases List.eq_nil_or_concat P with rfl | ⟨F, x, rfl⟩
  · rw [push_nil]; simp [txtS]
  · rw [List.concat_eq_append]
    by_cases hj : x.k ≠ o.k ∨ o.k = 2 ∨ x.A ≠ o.A
    · rw [push_apart hj, txtS_append, txtS_one]
      exact ⟨rfl, by rw [List.length_append]; exact Nat.le_refl _⟩
    · rw [push_join hj, txtS_append, txtS_append, txtS_one, txtS_one]
      have hs : (jnO x o).t.size = x.t.size + o.t.size := ByteArray.size_append
      rw [hs]
      exact ⟨by omega, by simp⟩
theorem push_fitA {P : List Op5} {o : Op5} (h : ∀ x ∈ P, FitA x) (ho : FitA o) : ∀ x ∈ pushL P o, FitA x := by
  rcases List.eq_nil_or_concat P with rfl | ⟨F, x, rfl⟩
  · rw [push_nil]; intro y hy; rw [List.mem_singleton.1 hy]; exact ho
  · rw [List.concat_eq_append] at h ⊢
    by_cases hj : x.k ≠ o.k ∨ o.k = 2 ∨ x.A ≠ o.A
    · rw [push_apart hj]
      intro y hy
      rcases List.mem_append.1 hy with hy | hy
      · exact h y hy
      · rw [List.mem_singleton.1 hy]; exact ho
    · rw [push_join hj]
      intro y hy
      rcases List.mem_append.1 hy with hy | hy
      · exact h y (List.mem_append_left _ hy)
      · rw [List.mem_singleton.1 hy]
        have := h x (List.mem_append_right _ (List.mem_singleton.2 rfl))
        exact ⟨this.v, this.A, this.n⟩
/-- The builder's sizes: n operations, texts of N bytes. -/
structure BSz (s : List Op5 × Int) (n N : Nat) : Prop where
  fit : ∀ x ∈ s.1, FitA x
  txt : txtS s.1 ≤ N
  len : s.1.length + (if 0 < s.2 then 1 else 0) ≤ n
theorem BSz.nil : BSz ([], 0) 0 0 := ⟨fun x hx => (by cases hx), Nat.le_refl 0, by simp⟩
theorem BSz.set {s : List Op5 × Int} {n N : Nat} (h : BSz s n N) : (∀ x ∈ setB s, FitA x) ∧ txtS (setB s) ≤ N ∧ (setB s).length ≤ n := by
  have h3 := h.len
  unfold setB
  split
  · rename_i h0
    rw [if_pos h0] at h3
    refine ⟨fun x hx => ?_, ?_, by rw [List.length_append]; exact h3⟩
    · rcases List.mem_append.1 hx with hx | hx
      · exact h.fit x hx
      · rw [List.mem_singleton.1 hx]; exact delO_fitA _
    · rw [txtS_append, txtS_one]
      exact h.txt
  · exact ⟨h.fit, h.txt, by omega⟩
theorem BSz.step {s : List Op5 × Int} {n N : Nat} {o : Op5} (h : BSz s n N) (ho : FitA o) : BSz (stB s o) (n + 1) (N + o.t.size) := by
  have h3 := h.len
  unfold stB
  by_cases h4 : o.k = 4
  · rw [if_pos h4]
    refine ⟨h.fit, by have := h.txt; show txtS s.1 ≤ _; omega, ?_⟩
    show s.1.length + (if 0 < s.2 + o.c then 1 else 0) ≤ n + 1
    split <;> omega
  · rw [if_neg h4]
    by_cases h5 : o.k = 3
    · rw [if_pos h5]
      obtain ⟨a, b, c⟩ := h.set
      obtain ⟨d, e⟩ := push_size (setB s) o
      refine ⟨push_fitA a ho, by show txtS (pushL (setB s) o) ≤ _; omega, ?_⟩
      show (pushL (setB s) o).length + (if (0 : Int) < 0 then 1 else 0) ≤ n + 1
      simp only [show ¬ ((0 : Int) < 0) by omega, if_false]; omega
    · rw [if_neg h5]
      obtain ⟨d, e⟩ := push_size s.1 o
      refine ⟨push_fitA h.fit ho, by have := h.txt; show txtS (pushL s.1 o) ≤ _; omega, ?_⟩
      show (pushL s.1 o).length + (if 0 < s.2 then 1 else 0) ≤ n + 1
      omega
theorem bldR_sz : ∀ (E : List Op5) {s : List Op5 × Int} {n N : Nat}, BSz s n N → (∀ o ∈ E, FitA o) → BSz (E.foldl stB s) (n + E.length) (N + txtS E)
  | [], s, n, N, h, _ => h
  | o :: r, s, n, N, h, hE => by
    have := bldR_sz r (h.step (hE o (List.mem_cons_self ..))) (fun x hx => hE x (List.mem_cons_of_mem _ hx))
    have e : txtS (o :: r) = o.t.size + txtS r := by simp [txtS]
    rw [e, List.length_cons, show N + (o.t.size + txtS r) = N + o.t.size + txtS r by omega, show n + (r.length + 1) = n + 1 + r.length by omega]
    exact this
end Go.Proofs.YtplnojapnaaakaaGreatDoor

/- A slice of operations among the arguments, with the letters of all its texts together. -/
namespace Go.Proofs.YtplnojapnaaakaaGreatDoor
open Go Go.RowKit Go.Lib Go.ChangeShapes Go.WideShapes Go.ChangeAt Go.Joins
set_option linter.unusedVariables false
theorem txt_bulk {H : Type} : ∀ (l : List Nat) (f : Nat → Op5) (D : Nat → DataW H), (∀ i ∈ l, (f i).t.size ≤ Rows.uptoBulk (D i)) → txtS (l.map f) ≤ Rows.uptoBulkAll (l.map D)
  | [], f, D, _ => Nat.zero_le _
  | a :: r, f, D, h => by
    have h1 := h a (List.mem_cons_self ..)
    have h2 := txt_bulk r f D fun i hi => h i (List.mem_cons_of_mem _ hi)
    show (f a).t.size + txtS (r.map f) ≤ Rows.uptoBulk (D a) + Rows.uptoBulkAll (r.map D)
    omega
theorem bulk_op {H : Type} {enc : TypeId × Value → H} {W : World} {cs : List Value} {d : DataW H} {p : List MemPlace} {fuel : Nat}
    (h : DataW.trod enc Tryz.prog W 0 (fun _ => true) true fuel 33 cs = some (d, p)) : 6 ≤ Rows.uptoBulk d := by
  obtain ⟨xs, n, _, hx, _, hl, _⟩ := DataW.trod_struct Tryz.underlying33 h
  simp only [Prod.mk.injEq] at hx
  obtain ⟨rfl, _⟩ := hx
  have h1 := bulk_len (xs.map (·.1)) (fun x _ => bulk_pos x)
  rw [List.length_map, hl] at h1
  simp only [Rows.uptoBulk]
  simp at h1
  omega
theorem bulk_six {H : Type} : ∀ (l : List (DataW H)), (∀ x ∈ l, 6 ≤ Rows.uptoBulk x) → l.length * 6 ≤ Rows.uptoBulkAll l
  | [], _ => Nat.zero_le _
  | y :: r, h => by
    have h1 := h y (List.mem_cons_self ..)
    have h2 := bulk_six r fun x hx => h x (List.mem_cons_of_mem _ hx)
    simp only [Rows.uptoBulkAll, List.length_cons]; omega
set_option maxRecDepth 100000 in
theorem open_ops8 {H : Type} {enc : TypeId × Value → H} {W : World} {base : Nat} {v : Value} {d : DataW H} {p : List MemPlace}
    (hok : Value.okWide Tryz.prog W .any base 26 v) (h : DataW.Trod enc Tryz.prog W 0 (fun _ => true) true 26 v d p) :
    ∃ E : List Op5, ReO W v E ∧ (∀ x ∈ p, x.block < W.heap.size) ∧ E.length * 6 + 1 ≤ Rows.uptoBulk d ∧ txtS E ≤ Rows.uptoBulk d ∧ ∀ e ∈ E, e.t.size ≤ Rows.uptoBulk d ∧ e.v.2.2.size ≤ Rows.uptoBulk d ∧ e.A.length ≤ Rows.uptoBulk d ∧ ∀ q ∈ e.A, q.1.size ≤ Rows.uptoBulk d ∧ q.2.2.2.size ≤ Rows.uptoBulk d := by
  obtain ⟨a0, len0, cap0, rfl⟩ := okWide_slice Tryz.underlying26 hok
  obtain ⟨fuel, hf⟩ := h
  rcases Go.Deep.open_slice Tryz.underlying26 hf with ⟨hcs, hx⟩ | ⟨a, len, cap, m, n, D, Pl, hcs, _, hlc, _, hm, hx, hel⟩
  · have hcs' : a0 = none ∧ len0 = 0 ∧ cap0 = 0 := by simpa [Value.cells] using hcs
    obtain ⟨rfl, rfl, rfl⟩ := hcs'
    simp only [Prod.mk.injEq] at hx
    obtain ⟨rfl, rfl⟩ := hx
    exact ⟨[], ⟨[], RowO.nil _, .nil⟩, by simp, Nat.le_refl _, Nat.zero_le _, by simp⟩
  · have hcs' : a0 = some a ∧ len0 = len ∧ cap0 = cap := by simpa [Value.cells] using hcs
    obtain ⟨rfl, rfl, rfl⟩ := hcs'
    simp only [Prod.mk.injEq] at hx
    obtain ⟨rfl, rfl⟩ := hx
    simp only [if_true] at hm
    subst hm
    have six : ∀ i, i < m → 6 ≤ Rows.uptoBulk (D i) := fun i hi => by
      obtain ⟨cs', _, h2⟩ := hel i hi
      exact bulk_op h2
    have each : ∀ i, i < m → ∃ q : Op5 × Sl, (W.cell? (a.add (i * 7)) = some (.int .i64 q.1.k) ∧ W.cell? ((a.add (i * 7)).add 1) = some (.string q.1.t) ∧ W.cell? ((a.add (i * 7)).add 2) = some (.int .i64 q.1.v.1) ∧ W.cell? ((a.add (i * 7)).add 3) = some (.int .i64 q.1.v.2.1) ∧ W.cell? ((a.add (i * 7)).add 4) = some (.string q.1.v.2.2) ∧ W.cell? ((a.add (i * 7)).add 5) = some (.int .i64 q.1.c) ∧ W.cell? ((a.add (i * 7)).add 6) = some (slV q.2)) ∧ RN W (slV q.2) q.1.A ∧ (∀ x ∈ Pl i, x.block < W.heap.size) ∧ q.1.t.size ≤ Rows.uptoBulk (D i) ∧ q.1.v.2.2.size ≤ Rows.uptoBulk (D i) ∧ q.1.A.length ≤ Rows.uptoBulk (D i) ∧ ∀ x ∈ q.1.A, x.1.size ≤ Rows.uptoBulk (D i) ∧ x.2.2.2.size ≤ Rows.uptoBulk (D i) := by
      intro i hi
      obtain ⟨cs', h1, h2⟩ := hel i hi
      rw [cellsOp] at h1
      obtain ⟨_, hlen, hcell⟩ := World.cells?_some h1
      obtain ⟨o, s, hcs, hR, hP, b1, b2, b3, b4⟩ := trod_op hlen h2
      obtain ⟨x, rfl⟩ := rn_sl hR
      subst hcs
      have q0 := hcell 0 (by simp)
      have q1 := hcell 1 (by simp)
      have q2 := hcell 2 (by simp)
      have q3 := hcell 3 (by simp)
      have q4 := hcell 4 (by simp)
      have q5 := hcell 5 (by simp)
      have q6 := hcell 6 (by simp)
      exact ⟨(o, x), ⟨by simpa [Addr.add, opC] using q0, by simpa [Addr.add, opC] using q1, by simpa [Addr.add, opC] using q2, by simpa [Addr.add, opC] using q3, by simpa [Addr.add, opC] using q4, by simpa [Addr.add, opC] using q5, by simpa [Addr.add, opC] using q6⟩, hR, hP, b1, b2, b3, b4⟩
    haveI : Inhabited (Op5 × Sl) := ⟨(opZ, (none, 0, 0))⟩
    obtain ⟨q, hq⟩ := Go.Deep.choose_lt each
    have hb : ∀ i, i < len0 → Rows.uptoBulk (D i) ≤ Rows.uptoBulk (DataW.slice ((List.range len0).map D) ((List.range (m - len0)).map fun j => D (len0 + j))) := fun i hi => by
      have := bulk_mem ((List.range len0).map D) (D i) (List.mem_map.2 ⟨i, List.mem_range.2 hi, rfl⟩)
      simp only [Rows.uptoBulk]; omega
    have hspot : ∀ i, i < m → ∃ b off, a = ⟨b, off, none⟩ := fun i hi => by
      obtain ⟨b, off, spot⟩ := a
      have h00 := (hq 0 (by omega)).1.1
      have : spot = none := by simpa [Addr.add] using World.cell?_spot h00
      subst this
      exact ⟨b, off, rfl⟩
    refine ⟨(List.range len0).map fun i => (q i).1, ⟨(List.range len0).map fun i => ((q i).1.k, (q i).1.t, (q i).1.v, (q i).1.c, (q i).2), ⟨some a, m, by simp, by simpa using hlc, fun h => (by cases h), fun j d hd => ?_⟩, ?_⟩, fun x hx => ?_, ?_, ?_, fun e he => ?_⟩
    · have hj : j < len0 := by have := (List.getElem?_eq_some_iff.1 hd).1; simpa using this
      obtain rfl : _ = d := by simpa [hj] using hd
      obtain ⟨b, off, rfl⟩ := hspot j (by omega)
      obtain ⟨c0, c1, c2, c3, c4, c5, c6⟩ := (hq j (by omega)).1
      simp only [Addr.add_lit] at c0 c1 c2 c3 c4 c5 c6
      exact ⟨b, off, rfl, c0, c1, c2, c3, c4, c5, c6⟩
    · exact forall2_maps _ _ _ fun i hi => ⟨rfl, rfl, rfl, rfl, (hq i (by have := List.mem_range.1 hi; omega)).2.1⟩
    · rcases List.mem_append.1 hx with hx | hx
      · obtain ⟨i, hi, rfl⟩ := MemPlace.mem_row.1 hx
        rcases Nat.eq_zero_or_pos m with h0 | h0
        · rw [h0, Nat.zero_mul] at hi; omega
        have := lt_of_cell (hq 0 h0).1.1
        show a.block < W.heap.size
        simpa [Addr.add] using this
      · obtain ⟨i, hi, hx⟩ := List.mem_flatMap.1 hx
        exact (hq i (List.mem_range.1 hi)).2.2.1 x hx
    · have := bulk_six ((List.range len0).map D) (fun x hx => by obtain ⟨i, hi, rfl⟩ := List.mem_map.1 hx; exact six i (by have := List.mem_range.1 hi; omega))
      simp only [List.length_map, List.length_range] at this ⊢
      simp only [Rows.uptoBulk]; omega
    · have := txt_bulk (List.range len0) (fun i => (q i).1) D fun i hi => (hq i (by have := List.mem_range.1 hi; omega)).2.2.2.1
      simp only [Rows.uptoBulk]; omega
    · obtain ⟨i, hi, rfl⟩ := List.mem_map.1 he
      have hi' : i < len0 := List.mem_range.1 hi
      have h1 := hb i hi'
      obtain ⟨_, _, _, b1, b2, b3, b4⟩ := hq i (by omega)
      exact ⟨by omega, by omega, by omega, fun x hx => by have := b4 x hx; omega⟩
end Go.Proofs.YtplnojapnaaakaaGreatDoor

/- Deltas unit by unit: one behind the other, and one carried over another: what they do to cells. -/
namespace Go.Proofs.YtplnojapnaaakaaGreatDoor
open Go Go.RowKit Go.Lib
set_option linter.unusedVariables false
theorem edit_ins (c : C5) (U : List U6) (cs : List C5) : edit (.ins c :: U) cs = (edit U cs).map (c :: ·) := by
  unfold edit
  show ((runU U cs).map _).map _ = _
  cases runU U cs <;> rfl
theorem edit_keep (A : List A2) (U : List U6) (c : C5) (cs : List C5) : edit (.keep A :: U) (c :: cs) = (edit U cs).map (patC c A :: ·) := by
  unfold edit
  show ((runU U cs).map _).map _ = _
  cases runU U cs <;> rfl
theorem edit_del (U : List U6) (c : C5) (cs : List C5) : edit (.del :: U) (c :: cs) = edit U cs := rfl
/-- A unit whose lists are what they should be. -/
def GoodU : U6 → Prop
  | .ins c => listE false none c.2.2.2 = 0 ∧ -1 ≤ c.1
  | .keep A => Pat A
  | .del => True
theorem good_units {E : List Op5} (h : ∀ o ∈ E, Wel o) : ∀ u ∈ units E, GoodU u := by
  induction E with
  | nil => intro u hu; cases hu
  | cons o r ih =>
    intro u hu
    rcases List.mem_append.1 (show u ∈ unitsO o ++ units r from hu) with hu | hu
    · have ho := h o (List.mem_cons_self ..)
      rcases unit_cases ho hu with ⟨hk, x, rfl⟩ | ⟨hk, rfl⟩ | ⟨hk, rfl⟩ | ⟨hk, rfl⟩
      · exact ⟨(ho.resolve_right (by rintro (h | h) <;> omega)).1.set, show (-1 : Int) ≤ (x : Int) by omega⟩
      · exact ⟨(ho.resolve_right (by rintro (h | h) <;> omega)).1.set, Int.le_refl _⟩
      · obtain ⟨_, _, _, _, h5⟩ := (ho.resolve_left (fun h => by omega)).resolve_right (fun h => by omega)
        exact pat_of h5
      · trivial
    · exact ih (fun x hx => h x (List.mem_cons_of_mem _ hx)) u hu
theorem setc_cons {c : C5} {cs : List C5} : SetC (c :: cs) ↔ listE false none c.2.2.2 = 0 ∧ SetC cs :=
  ⟨fun h => ⟨h c (List.mem_cons_self ..), fun x hx => h x (List.mem_cons_of_mem _ hx)⟩, fun ⟨h1, h2⟩ x hx => by
    rcases List.mem_cons.1 hx with rfl | hx
    · exact h1
    · exact h2 x hx⟩
theorem pat_set {S A : List A2} (hS : listE false none S = 0) (hA : Pat A) : listE false none (jn (chC false) S A) = 0 := by
  obtain ⟨p, n⟩ := set_of hS
  exact (Pat.jn (one_C false) p hA).set (nn_comp p.up hA.up)
theorem patC_two {c : C5} {A B : List A2} (hc : listE false none c.2.2.2 = 0) (hA : Pat A) (hB : Pat B) : patC c (jn (chC true) A B) = patC (patC c A) B := by
  obtain ⟨p, n⟩ := set_of hc
  unfold patC
  simp only
  rw [three4 p.up hA.up hB.up n]
/-- First U, then V. -/
def compU : List U6 → List U6 → List U6
  | U, [] => U
  | U, .ins c :: V => .ins c :: compU U V
  | [], .keep B :: V => .keep B :: V
  | [], .del :: V => .del :: V
  | .del :: U, .keep B :: V => .del :: compU U (.keep B :: V)
  | .del :: U, .del :: V => .del :: compU U (.del :: V)
  | .ins c :: U, .keep B :: V => .ins (patC c B) :: compU U V
  | .ins c :: U, .del :: V => compU U V
  | .keep A :: U, .keep B :: V => .keep (jn (chC true) A B) :: compU U V
  | .keep A :: U, .del :: V => .del :: compU U V
termination_by U V => U.length + V.length

theorem map_bind_cons {x : Option (List C5)} {c : C5} {f : List C5 → Option (List C5)} : (x.map (c :: ·)).bind f = x.bind fun y => f (c :: y) := by cases x <;> rfl
theorem bind_map_cons {x : Option (List C5)} {c : C5} {f : List C5 → Option (List C5)} : (x.bind f).map (c :: ·) = x.bind fun y => (f y).map (c :: ·) := by cases x <;> rfl
/-- **What U and then V do, they do as one.** -/
theorem edit_comp : ∀ (U V : List U6) (cs : List C5), (∀ u ∈ U, GoodU u) → (∀ u ∈ V, GoodU u) → SetC cs → edit (compU U V) cs = (edit U cs).bind (edit V)
  | U, [], cs, _, _, _ => by rw [compU]; cases edit U cs <;> rfl
  | U, .ins c :: V, cs, hU, hV, hs => by
    rw [compU, edit_ins, edit_comp U V cs hU (fun u hu => hV u (List.mem_cons_of_mem _ hu)) hs, bind_map_cons]
    congr 1; funext y; rw [edit_ins]
  | [], .keep B :: V, cs, _, _, _ => by rw [compU]; rfl
  | [], .del :: V, cs, _, _, _ => by rw [compU]; rfl
  | .del :: U, .keep B :: V, [], _, _, _ => by rw [compU]; rfl
  | .del :: U, .keep B :: V, c :: cs, hU, hV, hs => by
    rw [compU, edit_del, edit_del]
    exact edit_comp U (.keep B :: V) cs (fun u hu => hU u (List.mem_cons_of_mem _ hu)) hV (setc_cons.1 hs).2
  | .del :: U, .del :: V, [], _, _, _ => by rw [compU]; rfl
  | .del :: U, .del :: V, c :: cs, hU, hV, hs => by
    rw [compU, edit_del, edit_del]
    exact edit_comp U (.del :: V) cs (fun u hu => hU u (List.mem_cons_of_mem _ hu)) hV (setc_cons.1 hs).2
  | .ins c :: U, .keep B :: V, cs, hU, hV, hs => by
    rw [compU, edit_ins, edit_ins, edit_comp U V cs (fun u hu => hU u (List.mem_cons_of_mem _ hu)) (fun u hu => hV u (List.mem_cons_of_mem _ hu)) hs, bind_map_cons, map_bind_cons]
    congr 1; funext y; rw [edit_keep]
  | .ins c :: U, .del :: V, cs, hU, hV, hs => by
    rw [compU, edit_ins, edit_comp U V cs (fun u hu => hU u (List.mem_cons_of_mem _ hu)) (fun u hu => hV u (List.mem_cons_of_mem _ hu)) hs, map_bind_cons]
    congr 1
  | .keep A :: U, .keep B :: V, [], _, _, _ => by rw [compU]; rfl
  | .keep A :: U, .keep B :: V, c :: cs, hU, hV, hs => by
    obtain ⟨h1, h2⟩ := setc_cons.1 hs
    rw [compU, edit_keep, edit_keep, edit_comp U V cs (fun u hu => hU u (List.mem_cons_of_mem _ hu)) (fun u hu => hV u (List.mem_cons_of_mem _ hu)) h2, bind_map_cons, map_bind_cons,
      patC_two h1 (hU _ (List.mem_cons_self ..)) (hV _ (List.mem_cons_self ..))]
    congr 1; funext y; rw [edit_keep]
  | .keep A :: U, .del :: V, [], _, _, _ => by rw [compU]; rfl
  | .keep A :: U, .del :: V, c :: cs, hU, hV, hs => by
    rw [compU, edit_del, edit_keep, edit_comp U V cs (fun u hu => hU u (List.mem_cons_of_mem _ hu)) (fun u hu => hV u (List.mem_cons_of_mem _ hu)) (setc_cons.1 hs).2, map_bind_cons]
    congr 1
termination_by U V => U.length + V.length

end Go.Proofs.YtplnojapnaaakaaGreatDoor

/- Two canonical lists that do the same to all long enough documents are one. -/
namespace Go.Proofs.YtplnojapnaaakaaGreatDoor
open Go Go.RowKit Go.Lib
set_option linter.unusedVariables false
theorem base_cons (u : U6) (U : List U6) : baseU (u :: U) = baseU U + (match u with | .ins _ => 0 | _ => 1) := by
  unfold baseU
  rw [List.countP_cons]
  cases u <;> rfl
theorem run_some : ∀ (U : List U6) (cs : List C5), baseU U ≤ cs.length → ∃ o, runU U cs = some (o, cs.drop (baseU U))
  | [], cs, _ => ⟨[], rfl⟩
  | .ins c :: U, cs, h => by
    rw [base_cons] at h ⊢
    obtain ⟨o, ho⟩ := run_some U cs (by simpa using h)
    refine ⟨c :: o, ?_⟩
    show (runU U cs).map _ = _
    rw [ho]; rfl
  | .keep A :: U, [], h => by rw [base_cons] at h; simp at h
  | .keep A :: U, c :: cs, h => by
    rw [base_cons] at h ⊢
    obtain ⟨o, ho⟩ := run_some U cs (by simpa using h)
    refine ⟨patC c A :: o, ?_⟩
    show (runU U cs).map _ = _
    rw [ho]; rfl
  | .del :: U, [], h => by rw [base_cons] at h; simp at h
  | .del :: U, c :: cs, h => by
    rw [base_cons] at h ⊢
    obtain ⟨o, ho⟩ := run_some U cs (by simpa using h)
    exact ⟨o, ho⟩
theorem edit_some {U : List U6} {cs : List C5} (h : baseU U ≤ cs.length) : ∃ xs, edit U cs = some xs := by
  obtain ⟨o, ho⟩ := run_some U cs h
  exact ⟨_, by unfold edit; rw [ho]; rfl⟩
end Go.Proofs.YtplnojapnaaakaaGreatDoor

/- Deltas unit by unit: inverses; lengths of what comes; compositions and carried deltas are well formed. -/
namespace Go.Proofs.YtplnojapnaaakaaGreatDoor
open Go Go.RowKit Go.Lib
set_option linter.unusedVariables false
/-- How many cells come of it. -/
theorem edit_len : ∀ (U : List U6) (cs xs : List C5), edit U cs = some xs → xs.length + baseU U = cs.length + resU U
  | [], cs, xs, h => by obtain rfl := Option.some.inj h; rfl
  | .ins c :: U, cs, xs, h => by
    rw [edit_ins] at h
    obtain ⟨y, hy, rfl⟩ := Option.map_eq_some_iff.1 h
    have := edit_len U cs y hy
    have e : resU (.ins c :: U) = resU U + 1 := by unfold resU; rw [List.countP_cons]; rfl
    rw [base_cons, e, List.length_cons]
    simp only; omega
  | .keep A :: U, [], xs, h => by cases h
  | .keep A :: U, c :: cs, xs, h => by
    rw [edit_keep] at h
    obtain ⟨y, hy, rfl⟩ := Option.map_eq_some_iff.1 h
    have := edit_len U cs y hy
    have e : resU (.keep A :: U) = resU U + 1 := by unfold resU; rw [List.countP_cons]; rfl
    rw [base_cons, e, List.length_cons, List.length_cons]
    simp only; omega
  | .del :: U, [], xs, h => by cases h
  | .del :: U, c :: cs, xs, h => by
    have := edit_len U cs xs h
    have e : resU (.del :: U) = resU U := by unfold resU; rw [List.countP_cons]; rfl
    rw [base_cons, e, List.length_cons]
    simp only; omega
end Go.Proofs.YtplnojapnaaakaaGreatDoor

/- The pieces of a cut text, purely. -/
namespace Go.Proofs.YtplnojapnaaakaaGreatDoor
open Go Go.RowKit Go.Lib
set_option linter.unusedVariables false
/-- The two pieces of an insert. -/
def headO (o : Op5) (m : Nat) : Op5 := ⟨1, o.t.extract 0 (pos (scs o.t.data.toList) m), z0, 0, o.A⟩
def tailO (o : Op5) (m : Nat) : Op5 := ⟨1, o.t.extract (pos (scs o.t.data.toList) m) o.t.size, z0, 0, o.A⟩

theorem scs_of {rs : List Nat} (h : ∀ r ∈ rs, scal r) : scs (encs rs) = rs ∧ brk (encs rs) = (encs rs).length := by
  have h1 := scs_eq (t := []) h (Or.inl rfl)
  have h2 := brk_eq (t := []) h (Or.inl rfl)
  rw [List.append_nil] at h1 h2
  exact ⟨h1, h2⟩
theorem head_list {o : Op5} (h : brk o.t.data.toList = o.t.size) (m : Nat) : (headO o m).t.data.toList = encs ((scs o.t.data.toList).take m) := by
  obtain ⟨_, h2, _⟩ := valid_text o.t h
  obtain ⟨rs, hrs⟩ : ∃ rs, scs o.t.data.toList = rs := ⟨_, rfl⟩
  show (o.t.extract 0 _).data.toList = _
  rw [hrs] at h2 ⊢
  rw [extract_of o.t (encs (rs.take m)) 0 _ (by rw [h2, List.drop_zero, Nat.sub_zero, take_pos])]
theorem tail_list {o : Op5} (h : brk o.t.data.toList = o.t.size) (m : Nat) : (tailO o m).t.data.toList = encs ((scs o.t.data.toList).drop m) := by
  obtain ⟨_, h2, _⟩ := valid_text o.t h
  have hs := size_toList o.t
  obtain ⟨rs, hrs⟩ : ∃ rs, scs o.t.data.toList = rs := ⟨_, rfl⟩
  show (o.t.extract _ _).data.toList = _
  rw [hrs] at h2 ⊢
  rw [extract_of o.t (encs (rs.drop m)) _ _ (by
    rw [List.take_of_length_le (by rw [List.length_drop, hs]; exact Nat.le_refl _), h2, drop_pos])]
theorem encs_len0 {rs : List Nat} (h : ∀ r ∈ rs, scal r) : rs.length ≤ (encs rs).length := by
  induction rs with
  | nil => exact Nat.le_refl _
  | cons x rs ih =>
    have := enc_pos (h x (by simp))
    have := ih fun r hr => h r (by simp [hr])
    simp only [encs, List.length_append, List.length_cons]
    omega
/-- A text of scalars, one at least, is an insert. -/
theorem ins_list {o o' : Op5} {rs : List Nat} (h : Ins o) (hs : ∀ r ∈ rs, scal r) (h0 : 0 < rs.length) (hk : o'.k = 1) (hv : o'.v = z0) (hc : o'.c = 0) (hA : o'.A = o.A) (ht : o'.t.data.toList = encs rs) : Ins o' ∧ lenO o' = rs.length := by
  obtain ⟨e1, e2⟩ := scs_of hs
  have hl := encs_len0 hs
  have hz := size_toList o'.t
  rw [ht] at hz
  refine ⟨⟨Or.inl ⟨hk, hv⟩, size_isEmp (by omega), hc, by rw [ht, e2, hz], by rw [hv]; exact chk_z0, by rw [hA]; exact h.set⟩, ?_⟩
  unfold lenO
  rw [if_pos hk, ht, e1]
theorem ins_head {o : Op5} (h : Ins o) {m : Nat} (h1 : 1 ≤ m) (hm : m < (scs o.t.data.toList).length) : Ins (headO o m) ∧ lenO (headO o m) = m := by
  have := ins_list (o' := headO o m) h (rs := (scs o.t.data.toList).take m) (fun r hr => (valid_text o.t h.utf).1 r (List.mem_of_mem_take hr)) (by rw [List.length_take]; omega) rfl rfl rfl rfl (head_list h.utf m)
  rw [List.length_take] at this
  exact ⟨this.1, by rw [this.2]; omega⟩
theorem ins_tail {o : Op5} (h : Ins o) {m : Nat} (hm : m < (scs o.t.data.toList).length) : Ins (tailO o m) ∧ lenO (tailO o m) = (scs o.t.data.toList).length - m := by
  have := ins_list (o' := tailO o m) h (rs := (scs o.t.data.toList).drop m) (fun r hr => (valid_text o.t h.utf).1 r (List.mem_of_mem_drop hr)) (by rw [List.length_drop]; omega) rfl rfl rfl rfl (tail_list h.utf m)
  rw [List.length_drop] at this
  exact this
theorem head_tail {o : Op5} (h : Ins o) (hk : o.k = 1) (m : Nat) : joinO (headO o m) (tailO o m) = o := by
  have hv : o.v = z0 := by
    rcases h.kind with ⟨_, hv⟩ | ⟨h2, _⟩
    · exact hv
    · omega
  have ht : (headO o m).t ++ (tailO o m).t = o.t := by
    apply ByteArray.ext
    apply Array.ext'
    rw [cat_list, head_list h.utf, tail_list h.utf, ← encs_append, List.take_append_drop]
    exact (valid_text o.t h.utf).2.1.symm
  have hc := h.count
  obtain ⟨k, t, v, c, A⟩ := o
  simp only at hk hv hc
  subst hk hv hc
  show (⟨1, (headO _ m).t ++ (tailO _ m).t, z0, 0, A⟩ : Op5) = _
  rw [ht]
theorem size_head (o : Op5) (m : Nat) : (headO o m).t.size ≤ o.t.size := by show (o.t.extract _ _).size ≤ _; rw [ByteArray.size_extract]; omega
theorem size_tail (o : Op5) (m : Nat) : (tailO o m).t.size ≤ o.t.size := by show (o.t.extract _ _).size ≤ _; rw [ByteArray.size_extract]; omega
theorem cells_cut {o : Op5} (h : Ins o) (hk : o.k = 1) {m : Nat} (h1 : 1 ≤ m) (hm : m < (scs o.t.data.toList).length) : cellsOf o = cellsOf (headO o m) ++ cellsOf (tailO o m) := by
  have := cells_join (ins_head h h1 hm).1 (ins_tail h hm).1 rfl rfl rfl
  rwa [head_tail h hk] at this
theorem lenO_pos {o : Op5} (h : Ins o) : 1 ≤ lenO o := by
  unfold lenO
  split
  · have h0 := isEmp_size h.full
    obtain ⟨_, h2, _⟩ := valid_text o.t h.utf
    rcases Nat.eq_zero_or_pos (scs o.t.data.toList).length with e | e
    · rw [List.eq_nil_of_length_eq_zero e] at h2
      have := size_toList o.t
      rw [h2] at this
      simp only [encs, List.length_nil] at this
      omega
    · exact e
  · exact Nat.le_refl _
theorem lenO_2 {o : Op5} (h : Ins o) (h2 : 2 ≤ lenO o) : o.k = 1 ∧ lenO o = (scs o.t.data.toList).length := by
  unfold lenO at h2 ⊢
  by_cases hk : o.k = 1
  · exact ⟨hk, if_pos hk⟩
  · rw [if_neg hk] at h2; omega
end Go.Proofs.YtplnojapnaaakaaGreatDoor

/- Deltas unit by unit: parts and turned parts; documents and their cells. -/
namespace Go.Proofs.YtplnojapnaaakaaGreatDoor
open Go Go.RowKit Go.Lib
set_option linter.unusedVariables false
/-- A cell that may be in a document. -/
def GoodC (c : C5) : Prop := (c.1 = -1 ∧ c.2.1.toList.isEmpty = false ∧ c.2.1.size ≤ 64 ∧ brk c.2.1.data.toList = c.2.1.size ∧ chkP c.2.2.1 = 0 ∨ ∃ r : Nat, c.1 = (r : Int) ∧ scal r ∧ c.2.1 = ⟨#[]⟩ ∧ c.2.2.1 = z0) ∧ listE false none c.2.2.2 = 0
/-- The operation that inserts a cell. -/
def opOf (c : C5) : Op5 := if c.1 = -1 then ⟨2, c.2.1, c.2.2.1, 0, c.2.2.2⟩ else ⟨1, ⟨(enc c.1.toNat).toArray⟩, z0, 0, c.2.2.2⟩
theorem opOf_good {c : C5} (h : GoodC c) : Wel (opOf c) ∧ unitsO (opOf c) = [.ins c] ∧ ((opOf c).k = 1 ∨ (opOf c).k = 2) := by
  obtain ⟨h, hs⟩ := h
  obtain ⟨a, t, v, A⟩ := c
  simp only at h hs
  rcases h with ⟨rfl, h1, h2, h3, h4⟩ | ⟨r, rfl, h1, rfl, rfl⟩
  · have e : opOf (-1, t, v, A) = ⟨2, t, v, 0, A⟩ := rfl
    rw [e]
    refine ⟨Or.inl ⟨⟨Or.inr ⟨rfl, h2⟩, h1, rfl, h3, h4, hs⟩, Or.inr rfl⟩, ?_, Or.inr rfl⟩
    rw [unitsO_1 (Or.inr rfl), cells2 rfl]
  · have e : opOf ((r : Int), ⟨#[]⟩, z0, A) = ⟨1, ⟨(enc r).toArray⟩, z0, 0, A⟩ := by
      unfold opOf
      rw [if_neg (by simp only; omega)]
      simp
    rw [e]
    obtain ⟨s1, s2⟩ := scs_of (rs := [r]) (fun x hx => by rw [List.mem_singleton.1 hx]; exact h1)
    have e2 : encs [r] = enc r := by simp [encs]
    rw [e2] at s1 s2
    have hp := enc_pos h1
    have hsz : (⟨(enc r).toArray⟩ : ByteArray).size = (enc r).length := by simp [ByteArray.size]
    refine ⟨Or.inl ⟨⟨Or.inl ⟨rfl, rfl⟩, size_isEmp (by rw [hsz]; exact hp.1), rfl, ?_, chk_z0, hs⟩, Or.inl rfl⟩, ?_, Or.inl rfl⟩
    · show brk (enc r) = _
      rw [s2, hsz]
    · rw [unitsO_1 (Or.inl rfl)]
      unfold cellsOf
      rw [if_pos rfl]
      show (mkC A (scs (enc r))).map U6.ins = _
      rw [s1]; rfl
/-- A list of inserts alone. -/
def DocL (E : List Op5) : Prop := ∀ o ∈ E, o.k = 1 ∨ o.k = 2
/-- A document's cells. -/
def cellsL (E : List Op5) : List C5 := E.flatMap cellsOf
theorem units_doc : ∀ {E : List Op5}, DocL E → units E = (cellsL E).map .ins
  | [], _ => rfl
  | o :: r, h => by
    show unitsO o ++ units r = _
    rw [unitsO_1 (h o (List.mem_cons_self ..)), units_doc fun x hx => h x (List.mem_cons_of_mem _ hx)]
    show _ = ((cellsOf o ++ cellsL r).map U6.ins)
    rw [List.map_append]
theorem units_ops : ∀ {cs : List C5}, (∀ c ∈ cs, GoodC c) → units (cs.map opOf) = cs.map .ins
  | [], _ => rfl
  | c :: cs, h => by
    show unitsO (opOf c) ++ units (cs.map opOf) = _
    rw [(opOf_good (h c (List.mem_cons_self ..))).2.1, units_ops fun x hx => h x (List.mem_cons_of_mem _ hx)]; rfl
/-- The document of cells. -/
def docOf (cs : List C5) : List Op5 := canonL (cs.map opOf)
theorem strip_ins : ∀ (l : List C5), stripU (l.map U6.ins) = l.map U6.ins := fun l => by
  rcases List.eq_nil_or_concat l with rfl | ⟨m, c, rfl⟩
  · rfl
  · rw [List.concat_eq_append, List.map_append]
    exact strip_end rfl
theorem nrm_ins0 (l : List C5) : nrm [] 0 (l.map .ins) = l.map .ins := by
  have := nrm_ins l [] 0 []
  rw [List.append_nil] at this
  rw [this]; simp [nrm]
theorem doc_units {cs : List C5} (h : ∀ c ∈ cs, GoodC c) : (∀ o ∈ docOf cs, Wel o) ∧ chainB (docOf cs) = true ∧ lastP (docOf cs) = true ∧ units (docOf cs) = cs.map .ins := by
  have hw : ∀ o ∈ cs.map opOf, Wel o := fun o ho => by
    obtain ⟨c, hc, rfl⟩ := List.mem_map.1 ho
    exact (opOf_good (h c hc)).1
  obtain ⟨t1, t2, t3, t4⟩ := canon_spec hw
  exact ⟨t1, t2, t3, by rw [show units (docOf cs) = _ from t4, units_ops h, nrm_ins0, strip_ins]⟩
theorem ins_map_inj {a b : List C5} (h : a.map U6.ins = b.map U6.ins) : a = b := (List.map_inj_right fun x y h => U6.ins.inj h).1 h
theorem wel_doc {E : List Op5} (h : ∀ o ∈ E, Wel o) {cs : List C5} (e : units E = cs.map .ins) : DocL E := fun o ho => by
  have hw := h o ho
  obtain ⟨u, us, hu⟩ := List.exists_cons_of_ne_nil (unitsO_ne hw)
  have m : u ∈ unitsO o := by rw [hu]; exact List.mem_cons_self ..
  have mem : ∀ {E : List Op5} {o : Op5} {u : U6}, o ∈ E → u ∈ unitsO o → u ∈ units E := fun {E} => by
    induction E with
    | nil => intro o u h; cases h
    | cons x r ih =>
      intro o u h hu
      show u ∈ unitsO x ++ units r
      rcases List.mem_cons.1 h with rfl | h
      · exact List.mem_append_left _ hu
      · exact List.mem_append_right _ (ih h hu)
  have := mem ho m
  rw [e] at this
  obtain ⟨c, _, rfl⟩ := List.mem_map.1 this
  rcases unit_cases hw m with ⟨hk, _⟩ | ⟨hk, _⟩ | ⟨_, h⟩ | ⟨_, h⟩
  · exact Or.inl hk
  · exact Or.inr hk
  · cases h
  · cases h
theorem good_cells {E : List Op5} (h : ∀ o ∈ E, Wel o) (hd : DocL E) : ∀ c ∈ cellsL E, GoodC c := fun c hc => by
  obtain ⟨o, ho, hc⟩ := List.mem_flatMap.1 hc
  have hw := h o ho
  obtain ⟨i, _⟩ := hw.resolve_right (by have := hd o ho; rintro (h | h) <;> omega)
  rcases hd o ho with hk | hk
  · unfold cellsOf at hc
    rw [if_pos hk, mkC] at hc
    obtain ⟨r, hr, rfl⟩ := List.mem_map.1 hc
    obtain ⟨_, hsc, _, _⟩ := text_cases o.t.data.toList
    exact ⟨Or.inr ⟨r, rfl, hsc r hr, rfl, rfl⟩, i.set⟩
  · unfold cellsOf at hc
    rw [if_neg (by omega)] at hc
    rw [List.mem_singleton.1 hc]
    exact ⟨Or.inl ⟨rfl, i.full, (i.kind.resolve_left (by omega)).2, i.utf, i.val⟩, i.set⟩
end Go.Proofs.YtplnojapnaaakaaGreatDoor

/- A builder in memory: what stands while it is written; the strings.Builder that it bears. -/
namespace Go.Proofs.YtplnojapnaaakaaGreatDoor
open Go Go.RowKit Go.Lib
set_option linter.unusedVariables false
/-- Below B the memory stands, and what D says but for rows of bytes, and all rows of pairs. -/
structure FrB (B : Nat) (D : Nat → Prop) (w w' : World) : Prop where
  below : Below B w w'
  kept : ∀ (k : Nat) (o : Obj), w.heap[k]? = some o → D k → (∀ c fz, o ≠ .cells c 5 fz) → w'.heap[k]? = some o
  keepA : KeepA w w'
theorem FrB.refl (B : Nat) (D : Nat → Prop) (w : World) : FrB B D w w := ⟨Below.refl _ _, fun _ _ h _ _ => h, fun _ _ h => rfl⟩
theorem FrB.trans {B : Nat} {D : Nat → Prop} {a b c : World} (h : FrB B D a b) (k : FrB B D b c) : FrB B D a c :=
  ⟨h.below.trans k.below, fun i o ho hd hn => k.kept i o (h.kept i o ho hd hn) hd hn, h.keepA.trans k.keepA⟩
theorem FrB.mono {B : Nat} {D D' : Nat → Prop} {w w' : World} (h : FrB B D w w') (hd : ∀ k, D' k → D k) : FrB B D' w w' := ⟨h.below, fun i o ho hk hn => h.kept i o ho (hd i hk) hn, h.keepA⟩
theorem FrB.low {B B' : Nat} {D : Nat → Prop} {w w' : World} (h : FrB B D w w') (hb : B' ≤ B) : FrB B' D w w' := ⟨h.below.mono hb, h.kept, h.keepA⟩
theorem FrB.of_below {B : Nat} {D : Nat → Prop} {w w' : World} (h : Below w.heap.size w w') (hB : B ≤ w.heap.size) : FrB B D w w' :=
  ⟨h.mono hB, fun k o ho _ _ => (h.block k (Array.getElem?_eq_some_iff.1 ho).1).trans ho, keepA_below h⟩
theorem FrB.drew {B : Nat} {D : Nat → Prop} {a w : World} (h : FrB B D a w) : FrB B D a w.drew := ⟨h.below.drew, h.kept, h.keepA⟩
theorem FrB.drewN {B : Nat} {D : Nat → Prop} {a w : World} (h : FrB B D a w) (n : Nat) : FrB B D a (w.drewN n) := ⟨below_drewN h.below n, h.kept, h.keepA⟩
theorem FrB.alloc {B : Nat} {D : Nat → Prop} {a w : World} (h : FrB B D a w) (hB : B ≤ w.heap.size) (o : Obj) : FrB B D a (w.alloc o) :=
  h.trans (.of_below ((Below.refl _ _).alloc (Nat.le_refl _) _) hB)
theorem FrB.setCell {B : Nat} {D : Nat → Prop} {a w : World} (h : FrB B D a w) {g j : Nat} {cs : Array Value} {T : TypeId} {fz : Nat × Nat} (hg : w.heap[g]? = some (.cells cs T fz)) (hT : T ≠ 154) (hB : B ≤ g) (hD : ¬ D g) (u : Value) : FrB B D a (w.setCell ⟨g, j, none⟩ u) := by
  refine h.trans ⟨(Below.refl _ _).setCell (p := ⟨g, j, none⟩) hB u, fun k o ho hd hn => ?_, fun k cur hk => ?_⟩
  · rw [Below.heap_setCell _ _ _ _ (by intro e; obtain rfl : k = g := e; exact hD hd)]; exact ho
  · refine Below.heap_setCell _ _ _ _ fun e => ?_
    obtain rfl : k = g := e
    rw [hg] at hk
    simp only [Option.some.injEq, Obj.cells.injEq] at hk
    exact hT hk.2.1
theorem FrB.grown {B : Nat} {D : Nat → Prop} {a w w' : World} {row : Option Nat} (h : FrB B D a w) (hg : w.grownBy w' row) (hB : B ≤ w.heap.size)
    (hr : ∀ k, row = some k → B ≤ k ∧ ∃ cs T fz, w.heap[k]? = some (.cells cs T fz) ∧ T ≠ 154 ∧ (D k → T = 5)) : FrB B D a w' := by
  refine h.trans ⟨(Below.refl _ _).grown hg hB (fun k hk => (hr k hk).1), fun k o ho hd hn => ?_, fun k cur hk => ?_⟩
  · refine (hg.block k (Array.getElem?_eq_some_iff.1 ho).1 fun e => ?_).trans ho
    obtain ⟨_, cs, T, fz, h1, _, h3⟩ := hr k e.symm
    rw [h1] at ho
    obtain rfl := Option.some.inj ho
    obtain rfl := h3 hd
    exact hn _ _ rfl
  · refine hg.block k (Array.getElem?_eq_some_iff.1 hk).1 fun e => ?_
    obtain ⟨_, cs, T, fz, h1, h2, _⟩ := hr k e.symm
    rw [h1] at hk
    simp only [Option.some.injEq, Obj.cells.injEq] at hk
    exact h2 hk.2.1
theorem heap_freeze (w : World) (p : Addr) (n k : Nat) (h : k ≠ p.block) : (w.freeze p n).heap[k]? = w.heap[k]? := by
  unfold World.freeze
  split
  · rfl
  · simp only [Array.getElem?_modify]
    rw [if_neg (fun e => h e.symm)]
theorem FrB.freeze {B : Nat} {D : Nat → Prop} {a w : World} (h : FrB B D a w) {g n : Nat} {cs : Array Value} {fz : Nat × Nat} (hg : w.heap[g]? = some (.cells cs 5 fz)) (hB : B ≤ g) : FrB B D a (w.freeze ⟨g, 0, none⟩ n) := by
  refine h.trans ⟨Lib.below_freeze (Below.refl B w) (p := ⟨g, 0, none⟩) hB _, fun k o ho hd hn => ?_, fun k cur hk => ?_⟩
  · refine (heap_freeze _ _ _ _ fun e => ?_).trans ho
    obtain rfl : k = g := e
    rw [hg] at ho
    obtain rfl := Option.some.inj ho
    exact hn _ _ rfl
  · refine heap_freeze _ _ _ _ fun e => ?_
    obtain rfl : k = g := e
    rw [hg] at hk
    simp only [Option.some.injEq, Obj.cells.injEq] at hk
    exact absurd hk.2.1 (by decide)

theorem infoU8 : ∃ i, Tryz.prog.info? 5 = some i ∧ i.zero = some (.int .u8 0) ∧ i.size = 1 ∧ i.bytes = 1 := by
  obtain ⟨i, hi, h⟩ := Option.map_eq_some_iff.1 (show (Tryz.prog.info? 5).map (fun i => (i.zero, i.size, i.bytes)) = some (some (.int .u8 0), 1, 1) by kernel_rfl)
  simp only [Prod.mk.injEq] at h
  exact ⟨i, hi, h.1, h.2.1, h.2.2⟩

/-- The six cells of a builder; the last two are its strings.Builder's, which holds l. -/
structure Sbd (w : World) (B g : Nat) (c0 c1 c2 c3 av jv : Value) (l : List UInt8) : Prop where
  lo : B ≤ g
  at_ : w.heap[g]? = some (.cells #[c0, c1, c2, c3, av, jv] 94 (0, 0))
  buf : w.ownsRowF B 5 1 jv l.length (byteCells l)
  adr : av = .pointer none ∨ av = .pointer (some ⟨g, 4, none⟩)
def SbE (w : World) (B g : Nat) (c0 c1 c2 c3 : Value) (l : List UInt8) : Prop := ∃ av jv, Sbd w B g c0 c1 c2 c3 av jv l
theorem Sbd.lt {w : World} {B g : Nat} {c0 c1 c2 c3 av jv : Value} {l : List UInt8} (h : Sbd w B g c0 c1 c2 c3 av jv l) : g < w.heap.size := (Array.getElem?_eq_some_iff.1 h.at_).1
theorem Sbd.ne {w : World} {B g : Nat} {c0 c1 c2 c3 av jv : Value} {l : List UInt8} (h : Sbd w B g c0 c1 c2 c3 av jv l) : jv.ownBlock ≠ some g := ownBlock_neF h.buf h.at_ (by decide)
theorem rowF_same {w w' : World} {B : Nat} {e : TypeId} {v : Value} {n : Nat} {xs : List Value} (h : w.ownsRowF B e 1 v n xs) (hk : ∀ k, v.ownBlock = some k → w'.heap[k]? = w.heap[k]?) : w'.ownsRowF B e 1 v n xs := by
  refine ⟨h.1, ?_⟩
  rcases h.2 with hn | ⟨g, cap, cur, fz, rfl, hb, hgg, rest⟩
  · exact .inl hn
  · exact .inr ⟨g, cap, cur, fz, rfl, hb, (hk g rfl).trans hgg, rest⟩
theorem Sbd.set4 {w : World} {B g : Nat} {c0 c1 c2 c3 av jv : Value} {l : List UInt8} (h : Sbd w B g c0 c1 c2 c3 av jv l) (q : Value) (hq : q = .pointer none ∨ q = .pointer (some ⟨g, 4, none⟩)) : Sbd (w.setCell ⟨g, 4, none⟩ q) B g c0 c1 c2 c3 q jv l :=
  ⟨h.lo, by rw [heap_set_at _ _ _ _ _ _ _ h.at_]; rfl, rowF_same h.buf fun k hk => Below.heap_setCell _ _ _ _ (fun e => h.ne (by rw [hk, e])), hq⟩
theorem Sbd.set5 {w : World} {B g : Nat} {c0 c1 c2 c3 av jv jv' : Value} {l' : List UInt8} (hlo : B ≤ g) (hat : w.heap[g]? = some (.cells #[c0, c1, c2, c3, av, jv] 94 (0, 0))) (hbuf : w.ownsRowF B 5 1 jv' l'.length (byteCells l')) (hadr : av = .pointer none ∨ av = .pointer (some ⟨g, 4, none⟩)) : Sbd (w.setCell ⟨g, 5, none⟩ jv') B g c0 c1 c2 c3 av jv' l' :=
  ⟨hlo, by rw [heap_set_at _ _ _ _ _ _ _ hat]; rfl, rowF_same hbuf fun k hk => Below.heap_setCell _ _ _ _ (fun e => ownBlock_neF hbuf hat (by decide) (by rw [hk, e])), hadr⟩
theorem strCells_byte (s : ByteArray) : strCells s = byteCells s.data.toList := rfl

set_option maxHeartbeats 1000000 in
theorem sbLen_any (B g : Nat) (c0 c1 c2 c3 : Value) (l : List UInt8) (w : World) (h : SbE w B g c0 c1 c2 c3 l) :
    Calls Tryz.prog 167 #[.pointer (some ⟨g, 4, none⟩)] w fun e w' => e = .returned (.int .i64 l.length) ∧ w' = w := by
  obtain ⟨av, jv, h⟩ := h
  obtain ⟨p, n, cap, rfl, hn⟩ : ∃ p n cap, jv = .slice p n cap ∧ n = l.length := by
    rcases h.buf.2 with ⟨rfl, h0⟩ | ⟨g', cap, cur, fz, rfl, _⟩
    · exact ⟨none, 0, 0, rfl, h0.symm⟩
    · exact ⟨_, _, _, rfl, rfl⟩
  have c5 : w.cell? ⟨g, 5, none⟩ = some (.slice p n cap) := by rw [cell_of_heap h.at_]; rfl
  rw [← hn]
  clear h hn
  go_enter Tryz.func167, Tryz.ntmps167
  go_wp2
  go_ret
  exact ⟨rfl, rfl⟩
set_option maxHeartbeats 1000000 in
set_option maxRecDepth 100000 in
theorem sbCheck_any (B g : Nat) (c0 c1 c2 c3 : Value) (l : List UInt8) (w : World) (h : SbE w B g c0 c1 c2 c3 l) :
    Calls Tryz.prog 174 #[.pointer (some ⟨g, 4, none⟩)] w fun e w' => e = .returned (.tuple #[]) ∧ (∃ jv, Sbd w' B g c0 c1 c2 c3 (.pointer (some ⟨g, 4, none⟩)) jv l) ∧ FrB B (fun k => k ≠ g) w w' := by
  obtain ⟨av, jv, h⟩ := h
  have c4 : w.cell? ⟨g, 4, none⟩ = some av := by rw [cell_of_heap h.at_]; rfl
  have f4 : w.frozen? ⟨g, 4, none⟩ = false := frozen_of_heap h.at_ 4
  have HF : Hid (FrB B (fun k => k ≠ g) w (w.setCell ⟨g, 4, none⟩ (.pointer (some ⟨g, 4, none⟩)))) := (FrB.refl _ _ w).setCell h.at_ (by decide) h.lo (by simp) _
  have HS : Hid (Sbd (w.setCell ⟨g, 4, none⟩ (.pointer (some ⟨g, 4, none⟩))) B g c0 c1 c2 c3 (.pointer (some ⟨g, 4, none⟩)) jv l) := h.set4 _ (Or.inr rfl)
  have hsh : w.shape? g = some (94, 6) := by simp [World.shape?, h.at_]
  obtain ⟨j, hj, hjs⟩ := Option.map_eq_some_iff.1 (show (Tryz.prog.info? 92).map (·.size) = some 2 by kernel_rfl)
  rcases h.adr with rfl | rfl
  · clear h
    go_enter Tryz.func174, Tryz.ntmps174
    go_wp2
    rw [Lib.run_to_unsafe w ⟨g, 4, none⟩ Tryz.underlying89 Tryz.underlying239 hj (by rw [hjs]; decide) hsh (by decide : 4 < 6)]
    simp only [Result.andThen]
    rw [Oper.upon_value]
    go_wp2
    rw [run_callFunc_extern Tryz.func176 (by kernel_rfl) (by kernel_rfl) (by kernel_rfl) (e := Extern.AbiNoEscape.same) (by kernel_rfl)]
    rw [Lib.run_noEscape]
    simp only [Result.andThen]
    rw [Oper.upon_value]
    go_wp2
    rw [Lib.run_from_unsafe w ⟨g, 4, none⟩ Tryz.underlying239 Tryz.underlying89 hj hsh (by kernel_rfl)]
    simp only [Result.andThen]
    rw [Oper.upon_value]
    go_wp2
    go_end0
    exact ⟨rfl, ⟨jv, HS.out⟩, HF.out⟩
  · have HS2 : Hid (Sbd w B g c0 c1 c2 c3 (.pointer (some ⟨g, 4, none⟩)) jv l) := h
    clear h
    go_enter Tryz.func174, Tryz.ntmps174
    go_wp2
    rw [Lib.run_neq_ptr_same w _ Tryz.underlying89 hj]
    go_wp2
    go_end0
    exact ⟨rfl, ⟨jv, HS2.out⟩, FrB.refl _ _ _⟩
set_option maxHeartbeats 2000000 in
set_option maxRecDepth 100000 in
theorem sbWrite_any (B g : Nat) (c0 c1 c2 c3 : Value) (l : List UInt8) (s : ByteArray) (w : World) (h : SbE w B g c0 c1 c2 c3 l) (hlen : l.length + s.size ≤ 140737488355328) (hBw : B ≤ w.heap.size) :
    Calls Tryz.prog 168 #[.pointer (some ⟨g, 4, none⟩), .string s] w fun e w' => e = .returned (.tuple #[.int .i64 s.size, .nilIface]) ∧ SbE w' B g c0 c1 c2 c3 (l ++ s.data.toList) ∧ FrB B (fun k => k ≠ g) w w' := by
  obtain ⟨i0, hi, hz0, hz1, hz2⟩ := infoU8
  have cc := sbCheck_any B g c0 c1 c2 c3 l w h
  clear h
  go_enter Tryz.func168, Tryz.ntmps168
  go_wp2_with fail
  refine cc.mono ?_; rintro e w1 ⟨rfl, ⟨jv, h1⟩, hf1⟩
  have c5 : w1.cell? ⟨g, 5, none⟩ = some jv := by rw [cell_of_heap h1.at_]; rfl
  have HH : Hid (Sbd w1 B g c0 c1 c2 c3 (.pointer (some ⟨g, 4, none⟩)) jv l ∧ FrB B (fun k => k ≠ g) w w1) := ⟨h1, hf1⟩
  clear cc h1 hf1
  go_wp2_with (at_builtin; refine Lib.wpList_append_own_stringF _ rfl _ _ 90 9 rfl B 5 i0 Tryz.underlying90 Tryz.underlying9 hi hz0 hz1 hz2 _ _ _ rfl HH.out.1.buf s rfl ?c3 ?c4 ?c5 ?_)
  case c3 => unfold maxLen; omega
  case c4 => omega
  case c5 => exact Nat.le_trans hBw HH.out.2.below.size
  intro v' w2 hown' hgrow _
  obtain ⟨h1, hf1⟩ := HH.out
  have hb2 : w2.heap[g]? = some (.cells #[c0, c1, c2, c3, .pointer (some ⟨g, 4, none⟩), jv] 94 (0, 0)) := by
    rw [hgrow.block g h1.lt (fun e => h1.ne e.symm)]
    exact h1.at_
  have d5 : w2.cell? ⟨g, 5, none⟩ = some jv := by rw [cell_of_heap hb2]; rfl
  have f5 : w2.frozen? ⟨g, 5, none⟩ = false := frozen_of_heap hb2 5
  obtain ⟨ao, n', cap, rfl⟩ : ∃ ao n' cap, v' = .slice ao n' cap := by
    rcases hown'.2 with ⟨hv, _⟩ | ⟨g', cap, cur, fz, hv, _⟩
    · exact ⟨_, _, _, hv⟩
    · exact ⟨_, _, _, hv⟩
  have HS : Hid (Sbd (w2.setCell ⟨g, 5, none⟩ (.slice ao n' cap)) B g c0 c1 c2 c3 (.pointer (some ⟨g, 4, none⟩)) (.slice ao n' cap) (l ++ s.data.toList)) := by
    refine Sbd.set5 h1.lo hb2 ?_ (Or.inr rfl)
    have e1 : byteCells (l ++ s.data.toList) = byteCells l ++ strCells s := by rw [strCells_byte]; simp [byteCells]
    rw [e1, List.length_append, size_toList]
    exact hown'
  have HF : Hid (FrB B (fun k => k ≠ g) w (w2.setCell ⟨g, 5, none⟩ (.slice ao n' cap))) := by
    refine (hf1.grown hgrow (Nat.le_trans hBw hf1.below.size) fun k hk => ?_).setCell hb2 (by decide) h1.lo (by simp) _
    obtain ⟨c, fz, hc⟩ := ownsRowF_kind h1.buf k hk
    exact ⟨(h1.buf.lt k hk).1, c, _, fz, hc, by decide, fun _ => rfl⟩
  clear HH h1 hf1 hb2 hown' hgrow c5
  go_wp2
  go_ret2
  exact ⟨rfl, ⟨_, _, HS.out⟩, HF.out⟩
set_option maxHeartbeats 2000000 in
set_option maxRecDepth 100000 in
theorem sbReset_any (B g : Nat) (c0 c1 c2 c3 : Value) (l : List UInt8) (w : World) (h : SbE w B g c0 c1 c2 c3 l) :
    Calls Tryz.prog 132 #[.pointer (some ⟨g, 4, none⟩)] w fun e w' => e = .returned (.tuple #[]) ∧ SbE w' B g c0 c1 c2 c3 [] ∧ FrB B (fun k => k ≠ g) w w' := by
  obtain ⟨av, jv, h⟩ := h
  have c4 : w.cell? ⟨g, 4, none⟩ = some av := by rw [cell_of_heap h.at_]; rfl
  have c5 : w.cell? ⟨g, 5, none⟩ = some jv := by rw [cell_of_heap h.at_]; rfl
  have f4 : w.frozen? ⟨g, 4, none⟩ = false := frozen_of_heap h.at_ 4
  have f5 : w.frozen? ⟨g, 5, none⟩ = false := frozen_of_heap h.at_ 5
  have h4 := h.set4 (.pointer none) (Or.inl rfl)
  have HS : Hid (Sbd ((w.setCell ⟨g, 4, none⟩ (.pointer none)).setCell ⟨g, 5, none⟩ (.slice none 0 0)) B g c0 c1 c2 c3 (.pointer none) (.slice none 0 0) []) := Sbd.set5 h.lo h4.at_ (World.ownsRowF_nil _ _ _ _) (Or.inl rfl)
  have HF : Hid (FrB B (fun k => k ≠ g) w ((w.setCell ⟨g, 4, none⟩ (.pointer none)).setCell ⟨g, 5, none⟩ (.slice none 0 0))) := ((FrB.refl _ _ w).setCell h.at_ (by decide) h.lo (by simp) _).setCell h4.at_ (by decide) h.lo (by simp) _
  clear h h4
  go_enter Tryz.func132, Tryz.ntmps132
  go_wp2
  go_end0
  exact ⟨rfl, ⟨_, _, HS.out⟩, HF.out⟩
set_option maxHeartbeats 2000000 in
set_option maxRecDepth 100000 in
theorem sbString_any (B g : Nat) (c0 c1 c2 c3 : Value) (l : List UInt8) (w : World) (h : SbE w B g c0 c1 c2 c3 l) (h0 : l ≠ []) :
    Calls Tryz.prog 169 #[.pointer (some ⟨g, 4, none⟩)] w fun e w' => e = .returned (.string ⟨l.toArray⟩) ∧ SbE w' B g c0 c1 c2 c3 l ∧ FrB B (fun k => k ≠ g) w w' := by
  obtain ⟨av, jv, h⟩ := h
  have hl0 : l.length ≠ 0 := by simpa using h0
  obtain ⟨r, cap, cur, fz, rfl, hbg, hg, hfz, hnc, hcm, hcs, htake⟩ : ∃ r cap cur fz, jv = .slice (some ⟨r, 0, none⟩) l.length cap ∧ B ≤ r ∧ w.heap[r]? = some (.cells cur 5 fz) ∧ fz.2 ≤ l.length * 1 ∧ l.length ≤ cap ∧ cap ≤ maxLen ∧ cur.size = cap * 1 ∧ cur.toList.take (l.length * 1) = byteCells l := by
    rcases h.buf.2 with ⟨_, hz⟩ | ⟨g', cap, cur, fz, hv, r⟩
    · exact absurd hz hl0
    · exact ⟨g', cap, cur, fz, hv, r⟩
  have c5 : w.drew.cell? ⟨g, 5, none⟩ = some (.slice (some ⟨r, 0, none⟩) l.length cap) := by
    have : w.drew.heap[g]? = _ := h.at_
    rw [cell_of_heap this]; rfl
  have hrg : r ≠ g := fun e => h.ne (by simp [Value.ownBlock, e])
  have hSD : (Builtin.unsafeSliceData_ #[90] 238 #[.slice (some ⟨r, 0, none⟩) l.length cap]).run Tryz.prog w.drew = .ok (.pointer (some ⟨r, 0, none⟩)) w.drew :=
    Lib.run_unsafeSliceData_row _ _ _ _ _ _ (by omega)
  have hcells : Tryz.prog.cellsOf 5 = 1 := by kernel_rfl
  have hUS : (Builtin.unsafeString_ #[238, 3] 9 #[.pointer (some ⟨r, 0, none⟩), .int .i64 l.length]).run Tryz.prog w.drew = .ok (.string ⟨l.toArray⟩) (w.drew.freeze ⟨r, 0, none⟩ l.length) := by
    refine Lib.run_unsafeString_row w.drew 238 3 9 5 Tryz.underlying238 hcells r cur.size (by have hg' : w.drew.heap[r]? = some (.cells cur 5 fz) := hg; simp [World.shape?, hg']) l h0 (by omega) (by unfold maxLen at hcm; omega) ?_
    intro j x hx
    have := h.buf.cells (g := r) rfl j (.int .u8 x.toNat) (by simp [byteCells, hx])
    exact this
  have HS : Hid (Sbd (w.drew.freeze ⟨r, 0, none⟩ l.length) B g c0 c1 c2 c3 av (.slice (some ⟨r, 0, none⟩) l.length cap) l) := by
    refine ⟨h.lo, (heap_freeze _ _ _ _ (fun e => hrg e.symm)).trans h.at_, ⟨h.buf.1, ?_⟩, h.adr⟩
    unfold World.freeze
    rw [if_neg (by simpa using hl0)]
    obtain ⟨lo, hi⟩ := fz
    refine .inr ⟨r, _, cur, (if lo == hi then (0, 0 + l.length) else (min lo 0, max hi (0 + l.length))), rfl, hbg, ?_, ?_, hnc, hcm, hcs, htake⟩
    · have hg' : w.drew.heap[r]? = some (.cells cur 5 (lo, hi)) := hg
      simp [Array.getElem?_modify, hg']
    · simp only at hfz
      split <;> simp <;> omega
  have HF : Hid (FrB B (fun k => k ≠ g) w (w.drew.freeze ⟨r, 0, none⟩ l.length)) := (FrB.refl _ _ w).drew.freeze (w := w.drew) (cs := cur) (fz := fz) hg hbg
  clear h hg hfz hnc hcm hcs htake hbg
  go_enter Tryz.func169, Tryz.ntmps169
  go_wp2
  go_region
  all_goals (go_wp2; go_ret; exact ⟨rfl, ⟨_, _, HS.out⟩, HF.out⟩)
end Go.Proofs.YtplnojapnaaakaaGreatDoor

/- build: last, grow, joinText, join: the builder's own parts. -/
namespace Go.Proofs.YtplnojapnaaakaaGreatDoor
open Go Go.RowKit Go.Lib
set_option linter.unusedVariables false
theorem last_nil (p : Option Addr) (c : Nat) (w : World) : Calls Tryz.prog 43 #[.slice p 0 c] w fun e w' => e = .returned .nilIface ∧ w' = w := by
  go_enter Tryz.func43, Tryz.ntmps43
  go_wp2
  go_ret
  exact ⟨rfl, rfl⟩
set_option maxHeartbeats 1000000 in
theorem last_one (v : Value) (FL : List Value) (x : Value) (B : Nat) (w : World) (hv : w.ownsRow B 56 1 v (FL ++ [x]).length (FL ++ [x])) (hl : FL.length ≤ 4194304) :
    Calls Tryz.prog 43 #[v] w fun e w' => e = .returned x ∧ w' = w := by
  obtain ⟨g, c, y, rfl, _, hy, hc⟩ := own_cell hv FL.length (by simp)
  have hy' : (FL ++ [x])[FL.length]? = some x := by simp
  obtain rfl : x = y := Option.some.inj (hy'.symm.trans hy)
  obtain ⟨n, hn⟩ : ∃ n, FL.length = n := ⟨_, rfl⟩
  have hn' : (FL ++ [x]).length = n + 1 := by simp [hn]
  rw [hn] at hc hl
  rw [hn']
  clear hv hy hy' hn hn'
  have hz : (((n + 1 : Nat) : Int) == 0) = false := by rw [beq_eq_false_iff_ne]; omega
  have hd : ((n + 1 : Nat) : Int) - 1 = (n : Int) := by omega
  go_enter Tryz.func43, Tryz.ntmps43
  go_wp2
  go_ret
  exact ⟨rfl, rfl⟩

/-- A text as bytes. -/
theorem cat_arr (a b : ByteArray) : (⟨(a.data.toList ++ b.data.toList).toArray⟩ : ByteArray) = a ++ b := by
  apply ByteArray.ext
  simp
set_option maxHeartbeats 2000000 in
set_option maxRecDepth 100000 in
theorem joinText_any (B g : Nat) (c0 c1 c2 c3 : Value) (l : List UInt8) (a b : ByteArray) (w : World) (h : SbE w B g c0 c1 c2 c3 l) (hl : l = [] ∨ l = a.data.toList) (ha : 0 < a.size) (hab : a.size + b.size ≤ 16777216) (hBw : B ≤ w.heap.size) :
    Calls Tryz.prog 155 #[.pointer (some ⟨g, 0, none⟩), .string a, .string b] w fun e w' => e = .returned (.string (a ++ b)) ∧ SbE w' B g c0 c1 c2 c3 (a ++ b).data.toList ∧ FrB B (fun k => k ≠ g) w w' := by
  have cL := sbLen_any B g c0 c1 c2 c3 l w h
  have hcat : (a ++ b).data.toList = a.data.toList ++ b.data.toList := cat_list a b
  have hne : a.data.toList ++ b.data.toList ≠ [] := by
    intro e
    have e2 := congrArg List.length e
    rw [List.length_append, size_toList, size_toList, List.length_nil] at e2
    omega
  have cS : Hid (∀ W, SbE W B g c0 c1 c2 c3 (a.data.toList ++ b.data.toList) → Calls Tryz.prog 169 #[.pointer (some ⟨g, 4, none⟩)] W fun e w' => e = .returned (.string (a ++ b)) ∧ SbE w' B g c0 c1 c2 c3 (a.data.toList ++ b.data.toList) ∧ FrB B (fun k => k ≠ g) W w') := fun W hW => by
    have := sbString_any B g c0 c1 c2 c3 _ W hW hne
    rw [cat_arr] at this
    exact this
  have cW : Hid (∀ W, SbE W B g c0 c1 c2 c3 a.data.toList → B ≤ W.heap.size → Calls Tryz.prog 168 #[.pointer (some ⟨g, 4, none⟩), .string b] W fun e w' => e = .returned (.tuple #[.int .i64 b.size, .nilIface]) ∧ SbE w' B g c0 c1 c2 c3 (a.data.toList ++ b.data.toList) ∧ FrB B (fun k => k ≠ g) W w') := fun W hW hB =>
    sbWrite_any B g c0 c1 c2 c3 a.data.toList b W hW (by rw [size_toList]; omega) hB
  have HC : Hid ((a ++ b).data.toList = a.data.toList ++ b.data.toList) := hcat
  by_cases hz : l = []
  · subst hz
    have c1' : Hid (Calls Tryz.prog 168 #[.pointer (some ⟨g, 4, none⟩), .string a] w fun e w' => e = .returned (.tuple #[.int .i64 a.size, .nilIface]) ∧ SbE w' B g c0 c1 c2 c3 a.data.toList ∧ FrB B (fun k => k ≠ g) w w') := by
      have := sbWrite_any B g c0 c1 c2 c3 [] a w h (by simp only [List.length_nil]; omega) hBw
      rw [List.nil_append] at this
      exact this
    have HB : Hid (B ≤ w.heap.size) := hBw
    clear h hl hne hcat hBw
    go_enter Tryz.func155, Tryz.ntmps155
    go_wp2_with fail
    refine cL.mono ?_; rintro e w1 ⟨rfl, rfl⟩
    go_wp2_with fail
    refine c1'.out.mono ?_; rintro e w2 ⟨rfl, h2, f2⟩
    have c3' := cW.out w2 h2 (Nat.le_trans HB.out f2.below.size)
    have F2 : Hid (FrB B (fun k => k ≠ g) _ w2) := f2
    clear cL c1' h2 f2
    go_wp2_with fail
    refine c3'.mono ?_; rintro e w3 ⟨rfl, h3, f3⟩
    have c4' := cS.out w3 h3
    have F3 : Hid (FrB B (fun k => k ≠ g) _ w3) := F2.out.trans f3
    clear c3' h3 f3 F2
    go_wp2_with fail
    refine c4'.mono ?_; rintro e w4 ⟨rfl, h4, f4⟩
    have F4 : Hid (SbE w4 B g c0 c1 c2 c3 (a ++ b).data.toList ∧ FrB B (fun k => k ≠ g) _ w4) := ⟨by rw [HC.out]; exact h4, F3.out.trans f4⟩
    clear c4' h4 f4 F3
    go_wp2
    go_ret
    exact ⟨rfl, F4.out⟩
  · have hl2 : l = a.data.toList := hl.resolve_left hz
    subst hl2
    have hnz : ((a.data.toList.length : Int) == 0) = false := by rw [beq_eq_false_iff_ne, size_toList]; omega
    have c3' := cW.out w h hBw
    clear h hl hne hcat hz cW
    go_enter Tryz.func155, Tryz.ntmps155
    go_wp2_with fail
    refine cL.mono ?_; rintro e w1 ⟨rfl, rfl⟩
    go_wp2_with fail
    refine c3'.mono ?_; rintro e w3 ⟨rfl, h3, f3⟩
    have c4' := cS.out w3 h3
    have F3 : Hid (FrB B (fun k => k ≠ g) _ w3) := f3
    clear c3' h3 f3 cL
    go_wp2_with fail
    refine c4'.mono ?_; rintro e w4 ⟨rfl, h4, f4⟩
    have F4 : Hid (SbE w4 B g c0 c1 c2 c3 (a ++ b).data.toList ∧ FrB B (fun k => k ≠ g) _ w4) := ⟨by rw [HC.out]; exact h4, F3.out.trans f4⟩
    clear c4' h4 f4 F3
    go_wp2
    go_ret
    exact ⟨rfl, F4.out⟩
end Go.Proofs.YtplnojapnaaakaaGreatDoor

/- build: join: the last piece and another as one. -/
namespace Go.Proofs.YtplnojapnaaakaaGreatDoor
open Go Go.RowKit Go.Lib
set_option linter.unusedVariables false
/-- May two operations be joined by the builder? -/
def joinsB (x o : Op5) : Prop := x.k = o.k ∧ (o.k = 1 ∨ o.k = 3) ∧ x.A = o.A
instance (x o : Op5) : Decidable (joinsB x o) := by unfold joinsB; infer_instance
theorem push_no {F : List Op5} {x o : Op5} (h : ¬ joinsB x o) (h4 : x.k ≠ 4 ∨ o.k ≠ 4) (hk : o.k = 1 ∨ o.k = 2 ∨ o.k = 3 ∨ o.k = 4) : pushL (F ++ [x]) o = F ++ [x] ++ [o] := by
  refine push_apart ?_
  by_cases h1 : x.k ≠ o.k
  · exact Or.inl h1
  · by_cases h2 : o.k = 2
    · exact Or.inr (Or.inl h2)
    · refine Or.inr (Or.inr fun e => h ⟨by omega, by omega, e⟩)
theorem push_yes {F : List Op5} {x o : Op5} (h : joinsB x o) : pushL (F ++ [x]) o = F ++ [jnO x o] := by
  obtain ⟨h1, h2, h3⟩ := h
  refine push_join ?_
  rintro (e | e | e)
  · exact e h1
  · omega
  · exact e h3
theorem forall2_unappend {α β : Type} {R : α → β → Prop} : ∀ {a c : List α} {b d : List β}, a.length = b.length → All2 R (a ++ c) (b ++ d) → All2 R a b ∧ All2 R c d
  | [], c, [], d, _, h => ⟨.nil, h⟩
  | x :: a, c, y :: b, d, e, h => by
    cases h with
    | cons h1 h2 =>
      obtain ⟨p, q⟩ := forall2_unappend (by simpa using e) h2
      exact ⟨.cons h1 p, q⟩
/-- A row of pieces' last piece. -/
theorem pie_last {w : World} {B : Nat} {PL : List Value} {F : List Op5} {x : Op5} (h : PieD w B PL (F ++ [x])) : ∃ FL s, PL = FL ++ [pieceQ x s] ∧ PieD w B FL F ∧ OwnA w B s x.A := by
  have hl := forall2_len h
  rcases List.eq_nil_or_concat PL with rfl | ⟨FL, y, rfl⟩
  · simp at hl
  · rw [List.concat_eq_append] at h hl ⊢
    have hl' : FL.length = F.length := by simpa using hl
    obtain ⟨h1, h2⟩ := forall2_unappend hl' h
    cases h2 with
    | cons a _ =>
      obtain ⟨s, rfl, hs⟩ := a
      exact ⟨FL, s, rfl, h1, hs⟩

theorem SbE.below {w w' : World} {B g : Nat} {c0 c1 c2 c3 : Value} {l : List UInt8} (h : SbE w B g c0 c1 c2 c3 l) (b : Below w.heap.size w w') : SbE w' B g c0 c1 c2 c3 l := by
  obtain ⟨av, jv, h⟩ := h
  exact ⟨av, jv, h.lo, (b.block g h.lt).trans h.at_, rowF_same h.buf fun k hk => b.block k (h.buf.lt k hk).2, h.adr⟩
theorem SbE.set_other {w : World} {B g : Nat} {c0 c1 c2 c3 : Value} {l : List UInt8} (h : SbE w B g c0 c1 c2 c3 l) {k j : Nat} {cs : Array Value} {T : TypeId} {fz : Nat × Nat} (hk : w.heap[k]? = some (.cells cs T fz)) (h1 : T ≠ 94) (h2 : T ≠ 5) (u : Value) : SbE (w.setCell ⟨k, j, none⟩ u) B g c0 c1 c2 c3 l := by
  obtain ⟨av, jv, h⟩ := h
  refine ⟨av, jv, h.lo, (Below.heap_setCell _ _ _ _ fun e => ?_).trans h.at_, rowF_same h.buf fun i hi => Below.heap_setCell _ _ _ _ fun e => ?_, h.adr⟩
  · obtain rfl : g = k := e
    rw [h.at_] at hk
    simp only [Option.some.injEq, Obj.cells.injEq] at hk
    exact h1 hk.2.1.symm
  · obtain rfl : i = k := e
    obtain ⟨c, fz', hc⟩ := ownsRowF_kind h.buf i hi
    rcases h.buf.2 with ⟨rfl, _⟩ | ⟨g', cap, cur, fz'', rfl, _, hgg, _⟩
    · cases hi
    · simp only [Value.ownBlock, Option.some.injEq] at hi
      obtain rfl : g' = i := hi
      rw [hgg] at hk
      simp only [Option.some.injEq, Obj.cells.injEq] at hk
      exact h2 hk.2.1.symm

set_option maxHeartbeats 4000000 in
set_option maxRecDepth 100000 in
theorem join_nil {B g : Nat} {c0 c1 c3 : Value} {p : Option Addr} {c : Nat} {l : List UInt8} (y : Value) (w : World) (h : SbE w B g c0 c1 (.slice p 0 c) c3 l) :
    Calls Tryz.prog 131 #[.pointer (some ⟨g, 0, none⟩), y] w fun e w' => e = .returned (.tuple #[.nilIface, .bool false]) ∧ Below w.heap.size w w' := by
  obtain ⟨av, jv, h⟩ := h
  have c2 : w.cell? ⟨g, 2, none⟩ = some (.slice p 0 c) := by rw [cell_of_heap h.at_]; rfl
  have cl := last_nil p c w
  have a1 : (Instr.typeAssert .nilIface 56 183 true).run Tryz.prog w = .ok (.tuple #[.agg #[.slice none 0 0, .string ⟨#[]⟩, .int .i64 0], .bool false]) w := by kernel_rfl
  have a2 : (Instr.typeAssert .nilIface 56 151 true).run Tryz.prog w = .ok (.tuple #[.agg #[.slice none 0 0, .int .i64 0], .bool false]) w := by kernel_rfl
  clear h
  go_enter Tryz.func131, Tryz.ntmps131
  go_wp2_with fail
  refine cl.mono ?_; rintro e w1 ⟨rfl, rfl⟩
  clear cl
  go_wp2
  go_ret2
  exact ⟨rfl, Below.refl _ _⟩
set_option maxHeartbeats 4000000 in
set_option maxRecDepth 100000 in
theorem join_no12 {B g : Nat} {c0 c1 pv c3 : Value} {l : List UInt8} (x o : Op5) (s sv : Value) (FL : List Value) (w : World) (h : SbE w B g c0 c1 pv c3 l) (hrow : w.ownsRow B 56 1 pv (FL ++ [pieceQ x s]).length (FL ++ [pieceQ x s])) (hlen : FL.length ≤ 4194304) (hs : ∃ p n c, s = .slice p n c) (hx : x.k = 1) (ho : o.k = 2) :
    Calls Tryz.prog 131 #[.pointer (some ⟨g, 0, none⟩), pieceQ o sv] w fun e w' => e = .returned (.tuple #[.nilIface, .bool false]) ∧ Below w.heap.size w w' := by
  obtain ⟨p1, l1, q1, rfl⟩ := hs
  have cl := last_one pv FL (pieceQ x (.slice p1 l1 q1)) B w hrow hlen
  obtain ⟨p, cap, hpv⟩ := own_slice hrow
  obtain ⟨av, jv, hs0⟩ := h
  have c2 : w.cell? ⟨g, 2, none⟩ = some pv := by rw [cell_of_heap hs0.at_]; rfl
  obtain ⟨nx, hnx⟩ : ∃ z : Int, ((scs x.t.data.toList).length : Int) = z := ⟨_, rfl⟩
  obtain ⟨tx, htx⟩ : ∃ z, x.t = z := ⟨_, rfl⟩
  obtain ⟨Vo, hVo⟩ : ∃ V, valP o.v = V := ⟨_, rfl⟩
  obtain ⟨tO, htO⟩ : ∃ z, o.t = z := ⟨_, rfl⟩
  rw [pieceQ_1 hx, hnx, htx] at cl
  rw [pieceQ_2 ho, hVo, htO]
  clear hs0 hrow hx ho hpv hnx htx hVo htO
  have a0 := as_i_i
  have a1 := as_e_i
  go_enter Tryz.func131, Tryz.ntmps131
  go_wp2_with fail
  refine cl.mono ?_; rintro e w1 ⟨rfl, rfl⟩
  clear cl
  go_wp2
  go_ret2
  exact ⟨rfl, by go_grown⟩
set_option maxHeartbeats 4000000 in
set_option maxRecDepth 100000 in
theorem join_no13 {B g : Nat} {c0 c1 pv c3 : Value} {l : List UInt8} (x o : Op5) (s sv : Value) (FL : List Value) (w : World) (h : SbE w B g c0 c1 pv c3 l) (hrow : w.ownsRow B 56 1 pv (FL ++ [pieceQ x s]).length (FL ++ [pieceQ x s])) (hlen : FL.length ≤ 4194304) (hs : ∃ p n c, s = .slice p n c) (hx : x.k = 1) (ho : o.k = 3) :
    Calls Tryz.prog 131 #[.pointer (some ⟨g, 0, none⟩), pieceQ o sv] w fun e w' => e = .returned (.tuple #[.nilIface, .bool false]) ∧ Below w.heap.size w w' := by
  obtain ⟨p1, l1, q1, rfl⟩ := hs
  have cl := last_one pv FL (pieceQ x (.slice p1 l1 q1)) B w hrow hlen
  obtain ⟨p, cap, hpv⟩ := own_slice hrow
  obtain ⟨av, jv, hs0⟩ := h
  have c2 : w.cell? ⟨g, 2, none⟩ = some pv := by rw [cell_of_heap hs0.at_]; rfl
  obtain ⟨nx, hnx⟩ : ∃ z : Int, ((scs x.t.data.toList).length : Int) = z := ⟨_, rfl⟩
  obtain ⟨tx, htx⟩ : ∃ z, x.t = z := ⟨_, rfl⟩
  obtain ⟨co, hco⟩ : ∃ z, o.c = z := ⟨_, rfl⟩
  rw [pieceQ_1 hx, hnx, htx] at cl
  rw [pieceQ_3 ho, hco]
  clear hs0 hrow hx ho hpv hnx htx hco
  have a0 := as_i_i
  have a1 := as_r_i
  go_enter Tryz.func131, Tryz.ntmps131
  go_wp2_with fail
  refine cl.mono ?_; rintro e w1 ⟨rfl, rfl⟩
  clear cl
  go_wp2
  go_ret2
  exact ⟨rfl, by go_grown⟩
set_option maxHeartbeats 4000000 in
set_option maxRecDepth 100000 in
theorem join_no14 {B g : Nat} {c0 c1 pv c3 : Value} {l : List UInt8} (x o : Op5) (s sv : Value) (FL : List Value) (w : World) (h : SbE w B g c0 c1 pv c3 l) (hrow : w.ownsRow B 56 1 pv (FL ++ [pieceQ x s]).length (FL ++ [pieceQ x s])) (hlen : FL.length ≤ 4194304) (hs : ∃ p n c, s = .slice p n c) (hx : x.k = 1) (ho : o.k = 4) :
    Calls Tryz.prog 131 #[.pointer (some ⟨g, 0, none⟩), pieceQ o sv] w fun e w' => e = .returned (.tuple #[.nilIface, .bool false]) ∧ Below w.heap.size w w' := by
  obtain ⟨p1, l1, q1, rfl⟩ := hs
  have cl := last_one pv FL (pieceQ x (.slice p1 l1 q1)) B w hrow hlen
  obtain ⟨p, cap, hpv⟩ := own_slice hrow
  obtain ⟨av, jv, hs0⟩ := h
  have c2 : w.cell? ⟨g, 2, none⟩ = some pv := by rw [cell_of_heap hs0.at_]; rfl
  obtain ⟨nx, hnx⟩ : ∃ z : Int, ((scs x.t.data.toList).length : Int) = z := ⟨_, rfl⟩
  obtain ⟨tx, htx⟩ : ∃ z, x.t = z := ⟨_, rfl⟩
  obtain ⟨co, hco⟩ : ∃ z, o.c = z := ⟨_, rfl⟩
  rw [pieceQ_1 hx, hnx, htx] at cl
  rw [pieceQ_4 ho, hco]
  clear hs0 hrow hx ho hpv hnx htx hco
  have a0 := as_i_i
  have a1 := as_d_i
  go_enter Tryz.func131, Tryz.ntmps131
  go_wp2_with fail
  refine cl.mono ?_; rintro e w1 ⟨rfl, rfl⟩
  clear cl
  go_wp2
  go_ret2
  exact ⟨rfl, by go_grown⟩
set_option maxHeartbeats 4000000 in
set_option maxRecDepth 100000 in
theorem join_no21 {B g : Nat} {c0 c1 pv c3 : Value} {l : List UInt8} (x o : Op5) (s sv : Value) (FL : List Value) (w : World) (h : SbE w B g c0 c1 pv c3 l) (hrow : w.ownsRow B 56 1 pv (FL ++ [pieceQ x s]).length (FL ++ [pieceQ x s])) (hlen : FL.length ≤ 4194304) (hs : ∃ p n c, s = .slice p n c) (hx : x.k = 2) (ho : o.k = 1) :
    Calls Tryz.prog 131 #[.pointer (some ⟨g, 0, none⟩), pieceQ o sv] w fun e w' => e = .returned (.tuple #[.nilIface, .bool false]) ∧ Below w.heap.size w w' := by
  obtain ⟨p1, l1, q1, rfl⟩ := hs
  have cl := last_one pv FL (pieceQ x (.slice p1 l1 q1)) B w hrow hlen
  obtain ⟨p, cap, hpv⟩ := own_slice hrow
  obtain ⟨av, jv, hs0⟩ := h
  have c2 : w.cell? ⟨g, 2, none⟩ = some pv := by rw [cell_of_heap hs0.at_]; rfl
  obtain ⟨Vx, hVx⟩ : ∃ V, valP x.v = V := ⟨_, rfl⟩
  obtain ⟨tx, htx⟩ : ∃ z, x.t = z := ⟨_, rfl⟩
  obtain ⟨no, hno⟩ : ∃ z : Int, ((scs o.t.data.toList).length : Int) = z := ⟨_, rfl⟩
  obtain ⟨tO, htO⟩ : ∃ z, o.t = z := ⟨_, rfl⟩
  rw [pieceQ_2 hx, hVx, htx] at cl
  rw [pieceQ_1 ho, hno, htO]
  clear hs0 hrow hx ho hpv hVx htx hno htO
  have a0 := as_e_i
  have a1 := as_e_r
  go_enter Tryz.func131, Tryz.ntmps131
  go_wp2_with fail
  refine cl.mono ?_; rintro e w1 ⟨rfl, rfl⟩
  clear cl
  go_wp2
  go_ret2
  exact ⟨rfl, by go_grown⟩
set_option maxHeartbeats 4000000 in
set_option maxRecDepth 100000 in
theorem join_no22 {B g : Nat} {c0 c1 pv c3 : Value} {l : List UInt8} (x o : Op5) (s sv : Value) (FL : List Value) (w : World) (h : SbE w B g c0 c1 pv c3 l) (hrow : w.ownsRow B 56 1 pv (FL ++ [pieceQ x s]).length (FL ++ [pieceQ x s])) (hlen : FL.length ≤ 4194304) (hs : ∃ p n c, s = .slice p n c) (hx : x.k = 2) (ho : o.k = 2) :
    Calls Tryz.prog 131 #[.pointer (some ⟨g, 0, none⟩), pieceQ o sv] w fun e w' => e = .returned (.tuple #[.nilIface, .bool false]) ∧ Below w.heap.size w w' := by
  obtain ⟨p1, l1, q1, rfl⟩ := hs
  have cl := last_one pv FL (pieceQ x (.slice p1 l1 q1)) B w hrow hlen
  obtain ⟨p, cap, hpv⟩ := own_slice hrow
  obtain ⟨av, jv, hs0⟩ := h
  have c2 : w.cell? ⟨g, 2, none⟩ = some pv := by rw [cell_of_heap hs0.at_]; rfl
  obtain ⟨Vx, hVx⟩ : ∃ V, valP x.v = V := ⟨_, rfl⟩
  obtain ⟨tx, htx⟩ : ∃ z, x.t = z := ⟨_, rfl⟩
  obtain ⟨Vo, hVo⟩ : ∃ V, valP o.v = V := ⟨_, rfl⟩
  obtain ⟨tO, htO⟩ : ∃ z, o.t = z := ⟨_, rfl⟩
  rw [pieceQ_2 hx, hVx, htx] at cl
  rw [pieceQ_2 ho, hVo, htO]
  clear hs0 hrow hx ho hpv hVx htx hVo htO
  have a0 := as_e_i
  have a1 := as_e_r
  go_enter Tryz.func131, Tryz.ntmps131
  go_wp2_with fail
  refine cl.mono ?_; rintro e w1 ⟨rfl, rfl⟩
  clear cl
  go_wp2
  go_ret2
  exact ⟨rfl, by go_grown⟩
set_option maxHeartbeats 4000000 in
set_option maxRecDepth 100000 in
theorem join_no23 {B g : Nat} {c0 c1 pv c3 : Value} {l : List UInt8} (x o : Op5) (s sv : Value) (FL : List Value) (w : World) (h : SbE w B g c0 c1 pv c3 l) (hrow : w.ownsRow B 56 1 pv (FL ++ [pieceQ x s]).length (FL ++ [pieceQ x s])) (hlen : FL.length ≤ 4194304) (hs : ∃ p n c, s = .slice p n c) (hx : x.k = 2) (ho : o.k = 3) :
    Calls Tryz.prog 131 #[.pointer (some ⟨g, 0, none⟩), pieceQ o sv] w fun e w' => e = .returned (.tuple #[.nilIface, .bool false]) ∧ Below w.heap.size w w' := by
  obtain ⟨p1, l1, q1, rfl⟩ := hs
  have cl := last_one pv FL (pieceQ x (.slice p1 l1 q1)) B w hrow hlen
  obtain ⟨p, cap, hpv⟩ := own_slice hrow
  obtain ⟨av, jv, hs0⟩ := h
  have c2 : w.cell? ⟨g, 2, none⟩ = some pv := by rw [cell_of_heap hs0.at_]; rfl
  obtain ⟨Vx, hVx⟩ : ∃ V, valP x.v = V := ⟨_, rfl⟩
  obtain ⟨tx, htx⟩ : ∃ z, x.t = z := ⟨_, rfl⟩
  obtain ⟨co, hco⟩ : ∃ z, o.c = z := ⟨_, rfl⟩
  rw [pieceQ_2 hx, hVx, htx] at cl
  rw [pieceQ_3 ho, hco]
  clear hs0 hrow hx ho hpv hVx htx hco
  have a0 := as_e_i
  have a1 := as_e_r
  go_enter Tryz.func131, Tryz.ntmps131
  go_wp2_with fail
  refine cl.mono ?_; rintro e w1 ⟨rfl, rfl⟩
  clear cl
  go_wp2
  go_ret2
  exact ⟨rfl, by go_grown⟩
set_option maxHeartbeats 4000000 in
set_option maxRecDepth 100000 in
theorem join_no24 {B g : Nat} {c0 c1 pv c3 : Value} {l : List UInt8} (x o : Op5) (s sv : Value) (FL : List Value) (w : World) (h : SbE w B g c0 c1 pv c3 l) (hrow : w.ownsRow B 56 1 pv (FL ++ [pieceQ x s]).length (FL ++ [pieceQ x s])) (hlen : FL.length ≤ 4194304) (hs : ∃ p n c, s = .slice p n c) (hx : x.k = 2) (ho : o.k = 4) :
    Calls Tryz.prog 131 #[.pointer (some ⟨g, 0, none⟩), pieceQ o sv] w fun e w' => e = .returned (.tuple #[.nilIface, .bool false]) ∧ Below w.heap.size w w' := by
  obtain ⟨p1, l1, q1, rfl⟩ := hs
  have cl := last_one pv FL (pieceQ x (.slice p1 l1 q1)) B w hrow hlen
  obtain ⟨p, cap, hpv⟩ := own_slice hrow
  obtain ⟨av, jv, hs0⟩ := h
  have c2 : w.cell? ⟨g, 2, none⟩ = some pv := by rw [cell_of_heap hs0.at_]; rfl
  obtain ⟨Vx, hVx⟩ : ∃ V, valP x.v = V := ⟨_, rfl⟩
  obtain ⟨tx, htx⟩ : ∃ z, x.t = z := ⟨_, rfl⟩
  obtain ⟨co, hco⟩ : ∃ z, o.c = z := ⟨_, rfl⟩
  rw [pieceQ_2 hx, hVx, htx] at cl
  rw [pieceQ_4 ho, hco]
  clear hs0 hrow hx ho hpv hVx htx hco
  have a0 := as_e_i
  have a1 := as_e_r
  go_enter Tryz.func131, Tryz.ntmps131
  go_wp2_with fail
  refine cl.mono ?_; rintro e w1 ⟨rfl, rfl⟩
  clear cl
  go_wp2
  go_ret2
  exact ⟨rfl, by go_grown⟩
set_option maxHeartbeats 4000000 in
set_option maxRecDepth 100000 in
theorem join_no31 {B g : Nat} {c0 c1 pv c3 : Value} {l : List UInt8} (x o : Op5) (s sv : Value) (FL : List Value) (w : World) (h : SbE w B g c0 c1 pv c3 l) (hrow : w.ownsRow B 56 1 pv (FL ++ [pieceQ x s]).length (FL ++ [pieceQ x s])) (hlen : FL.length ≤ 4194304) (hs : ∃ p n c, s = .slice p n c) (hx : x.k = 3) (ho : o.k = 1) :
    Calls Tryz.prog 131 #[.pointer (some ⟨g, 0, none⟩), pieceQ o sv] w fun e w' => e = .returned (.tuple #[.nilIface, .bool false]) ∧ Below w.heap.size w w' := by
  obtain ⟨p1, l1, q1, rfl⟩ := hs
  have cl := last_one pv FL (pieceQ x (.slice p1 l1 q1)) B w hrow hlen
  obtain ⟨p, cap, hpv⟩ := own_slice hrow
  obtain ⟨av, jv, hs0⟩ := h
  have c2 : w.cell? ⟨g, 2, none⟩ = some pv := by rw [cell_of_heap hs0.at_]; rfl
  obtain ⟨cx, hcx⟩ : ∃ z, x.c = z := ⟨_, rfl⟩
  obtain ⟨no, hno⟩ : ∃ z : Int, ((scs o.t.data.toList).length : Int) = z := ⟨_, rfl⟩
  obtain ⟨tO, htO⟩ : ∃ z, o.t = z := ⟨_, rfl⟩
  rw [pieceQ_3 hx, hcx] at cl
  rw [pieceQ_1 ho, hno, htO]
  clear hs0 hrow hx ho hpv hcx hno htO
  have a0 := as_r_i
  have a1 := as_r_r
  have a2 := as_i_r
  go_enter Tryz.func131, Tryz.ntmps131
  go_wp2_with fail
  refine cl.mono ?_; rintro e w1 ⟨rfl, rfl⟩
  clear cl
  go_wp2
  go_ret2
  exact ⟨rfl, by go_grown⟩
set_option maxHeartbeats 4000000 in
set_option maxRecDepth 100000 in
theorem join_no32 {B g : Nat} {c0 c1 pv c3 : Value} {l : List UInt8} (x o : Op5) (s sv : Value) (FL : List Value) (w : World) (h : SbE w B g c0 c1 pv c3 l) (hrow : w.ownsRow B 56 1 pv (FL ++ [pieceQ x s]).length (FL ++ [pieceQ x s])) (hlen : FL.length ≤ 4194304) (hs : ∃ p n c, s = .slice p n c) (hx : x.k = 3) (ho : o.k = 2) :
    Calls Tryz.prog 131 #[.pointer (some ⟨g, 0, none⟩), pieceQ o sv] w fun e w' => e = .returned (.tuple #[.nilIface, .bool false]) ∧ Below w.heap.size w w' := by
  obtain ⟨p1, l1, q1, rfl⟩ := hs
  have cl := last_one pv FL (pieceQ x (.slice p1 l1 q1)) B w hrow hlen
  obtain ⟨p, cap, hpv⟩ := own_slice hrow
  obtain ⟨av, jv, hs0⟩ := h
  have c2 : w.cell? ⟨g, 2, none⟩ = some pv := by rw [cell_of_heap hs0.at_]; rfl
  obtain ⟨cx, hcx⟩ : ∃ z, x.c = z := ⟨_, rfl⟩
  obtain ⟨Vo, hVo⟩ : ∃ V, valP o.v = V := ⟨_, rfl⟩
  obtain ⟨tO, htO⟩ : ∃ z, o.t = z := ⟨_, rfl⟩
  rw [pieceQ_3 hx, hcx] at cl
  rw [pieceQ_2 ho, hVo, htO]
  clear hs0 hrow hx ho hpv hcx hVo htO
  have a0 := as_r_i
  have a1 := as_r_r
  have a2 := as_e_r
  go_enter Tryz.func131, Tryz.ntmps131
  go_wp2_with fail
  refine cl.mono ?_; rintro e w1 ⟨rfl, rfl⟩
  clear cl
  go_wp2
  go_ret2
  exact ⟨rfl, by go_grown⟩
set_option maxHeartbeats 4000000 in
set_option maxRecDepth 100000 in
theorem join_no34 {B g : Nat} {c0 c1 pv c3 : Value} {l : List UInt8} (x o : Op5) (s sv : Value) (FL : List Value) (w : World) (h : SbE w B g c0 c1 pv c3 l) (hrow : w.ownsRow B 56 1 pv (FL ++ [pieceQ x s]).length (FL ++ [pieceQ x s])) (hlen : FL.length ≤ 4194304) (hs : ∃ p n c, s = .slice p n c) (hx : x.k = 3) (ho : o.k = 4) :
    Calls Tryz.prog 131 #[.pointer (some ⟨g, 0, none⟩), pieceQ o sv] w fun e w' => e = .returned (.tuple #[.nilIface, .bool false]) ∧ Below w.heap.size w w' := by
  obtain ⟨p1, l1, q1, rfl⟩ := hs
  have cl := last_one pv FL (pieceQ x (.slice p1 l1 q1)) B w hrow hlen
  obtain ⟨p, cap, hpv⟩ := own_slice hrow
  obtain ⟨av, jv, hs0⟩ := h
  have c2 : w.cell? ⟨g, 2, none⟩ = some pv := by rw [cell_of_heap hs0.at_]; rfl
  obtain ⟨cx, hcx⟩ : ∃ z, x.c = z := ⟨_, rfl⟩
  obtain ⟨co, hco⟩ : ∃ z, o.c = z := ⟨_, rfl⟩
  rw [pieceQ_3 hx, hcx] at cl
  rw [pieceQ_4 ho, hco]
  clear hs0 hrow hx ho hpv hcx hco
  have a0 := as_r_i
  have a1 := as_r_r
  have a2 := as_d_r
  go_enter Tryz.func131, Tryz.ntmps131
  go_wp2_with fail
  refine cl.mono ?_; rintro e w1 ⟨rfl, rfl⟩
  clear cl
  go_wp2
  go_ret2
  exact ⟨rfl, by go_grown⟩
set_option maxHeartbeats 4000000 in
set_option maxRecDepth 100000 in
theorem join_no41 {B g : Nat} {c0 c1 pv c3 : Value} {l : List UInt8} (x o : Op5) (s sv : Value) (FL : List Value) (w : World) (h : SbE w B g c0 c1 pv c3 l) (hrow : w.ownsRow B 56 1 pv (FL ++ [pieceQ x s]).length (FL ++ [pieceQ x s])) (hlen : FL.length ≤ 4194304) (hs : ∃ p n c, s = .slice p n c) (hx : x.k = 4) (ho : o.k = 1) :
    Calls Tryz.prog 131 #[.pointer (some ⟨g, 0, none⟩), pieceQ o sv] w fun e w' => e = .returned (.tuple #[.nilIface, .bool false]) ∧ Below w.heap.size w w' := by
  obtain ⟨p1, l1, q1, rfl⟩ := hs
  have cl := last_one pv FL (pieceQ x (.slice p1 l1 q1)) B w hrow hlen
  obtain ⟨p, cap, hpv⟩ := own_slice hrow
  obtain ⟨av, jv, hs0⟩ := h
  have c2 : w.cell? ⟨g, 2, none⟩ = some pv := by rw [cell_of_heap hs0.at_]; rfl
  obtain ⟨cx, hcx⟩ : ∃ z, x.c = z := ⟨_, rfl⟩
  obtain ⟨no, hno⟩ : ∃ z : Int, ((scs o.t.data.toList).length : Int) = z := ⟨_, rfl⟩
  obtain ⟨tO, htO⟩ : ∃ z, o.t = z := ⟨_, rfl⟩
  rw [pieceQ_4 hx, hcx] at cl
  rw [pieceQ_1 ho, hno, htO]
  clear hs0 hrow hx ho hpv hcx hno htO
  have a0 := as_d_i
  have a1 := as_d_r
  go_enter Tryz.func131, Tryz.ntmps131
  go_wp2_with fail
  refine cl.mono ?_; rintro e w1 ⟨rfl, rfl⟩
  clear cl
  go_wp2
  go_ret2
  exact ⟨rfl, by go_grown⟩
set_option maxHeartbeats 4000000 in
set_option maxRecDepth 100000 in
theorem join_no42 {B g : Nat} {c0 c1 pv c3 : Value} {l : List UInt8} (x o : Op5) (s sv : Value) (FL : List Value) (w : World) (h : SbE w B g c0 c1 pv c3 l) (hrow : w.ownsRow B 56 1 pv (FL ++ [pieceQ x s]).length (FL ++ [pieceQ x s])) (hlen : FL.length ≤ 4194304) (hs : ∃ p n c, s = .slice p n c) (hx : x.k = 4) (ho : o.k = 2) :
    Calls Tryz.prog 131 #[.pointer (some ⟨g, 0, none⟩), pieceQ o sv] w fun e w' => e = .returned (.tuple #[.nilIface, .bool false]) ∧ Below w.heap.size w w' := by
  obtain ⟨p1, l1, q1, rfl⟩ := hs
  have cl := last_one pv FL (pieceQ x (.slice p1 l1 q1)) B w hrow hlen
  obtain ⟨p, cap, hpv⟩ := own_slice hrow
  obtain ⟨av, jv, hs0⟩ := h
  have c2 : w.cell? ⟨g, 2, none⟩ = some pv := by rw [cell_of_heap hs0.at_]; rfl
  obtain ⟨cx, hcx⟩ : ∃ z, x.c = z := ⟨_, rfl⟩
  obtain ⟨Vo, hVo⟩ : ∃ V, valP o.v = V := ⟨_, rfl⟩
  obtain ⟨tO, htO⟩ : ∃ z, o.t = z := ⟨_, rfl⟩
  rw [pieceQ_4 hx, hcx] at cl
  rw [pieceQ_2 ho, hVo, htO]
  clear hs0 hrow hx ho hpv hcx hVo htO
  have a0 := as_d_i
  have a1 := as_d_r
  go_enter Tryz.func131, Tryz.ntmps131
  go_wp2_with fail
  refine cl.mono ?_; rintro e w1 ⟨rfl, rfl⟩
  clear cl
  go_wp2
  go_ret2
  exact ⟨rfl, by go_grown⟩
set_option maxHeartbeats 4000000 in
set_option maxRecDepth 100000 in
theorem join_no43 {B g : Nat} {c0 c1 pv c3 : Value} {l : List UInt8} (x o : Op5) (s sv : Value) (FL : List Value) (w : World) (h : SbE w B g c0 c1 pv c3 l) (hrow : w.ownsRow B 56 1 pv (FL ++ [pieceQ x s]).length (FL ++ [pieceQ x s])) (hlen : FL.length ≤ 4194304) (hs : ∃ p n c, s = .slice p n c) (hx : x.k = 4) (ho : o.k = 3) :
    Calls Tryz.prog 131 #[.pointer (some ⟨g, 0, none⟩), pieceQ o sv] w fun e w' => e = .returned (.tuple #[.nilIface, .bool false]) ∧ Below w.heap.size w w' := by
  obtain ⟨p1, l1, q1, rfl⟩ := hs
  have cl := last_one pv FL (pieceQ x (.slice p1 l1 q1)) B w hrow hlen
  obtain ⟨p, cap, hpv⟩ := own_slice hrow
  obtain ⟨av, jv, hs0⟩ := h
  have c2 : w.cell? ⟨g, 2, none⟩ = some pv := by rw [cell_of_heap hs0.at_]; rfl
  obtain ⟨cx, hcx⟩ : ∃ z, x.c = z := ⟨_, rfl⟩
  obtain ⟨co, hco⟩ : ∃ z, o.c = z := ⟨_, rfl⟩
  rw [pieceQ_4 hx, hcx] at cl
  rw [pieceQ_3 ho, hco]
  clear hs0 hrow hx ho hpv hcx hco
  have a0 := as_d_i
  have a1 := as_d_r
  go_enter Tryz.func131, Tryz.ntmps131
  go_wp2_with fail
  refine cl.mono ?_; rintro e w1 ⟨rfl, rfl⟩
  clear cl
  go_wp2
  go_ret2
  exact ⟨rfl, by go_grown⟩
end Go.Proofs.YtplnojapnaaakaaGreatDoor

/- build: join, where both are texts or both are retains. -/
namespace Go.Proofs.YtplnojapnaaakaaGreatDoor
open Go Go.RowKit Go.Lib
set_option linter.unusedVariables false
theorem jnO_len {x o : Op5} (hx : brk x.t.data.toList = x.t.size) (ho : brk o.t.data.toList = o.t.size) : ((scs (x.t ++ o.t).data.toList).length : Int) = (scs x.t.data.toList).length + (scs o.t.data.toList).length := by
  have hc := scs_cat (a := x.t.data.toList) (b := o.t.data.toList) (by rw [hx, size_toList]) (by rw [ho, size_toList])
  rw [cat_list, hc.1, List.length_append]
  omega
/-- Two lists the same or not. -/
abbrev SameC (x o : Op5) : Prop := ∀ W v v', RowA W v x.A → RowA W v' o.A → Calls Tryz.prog 154 #[v, v'] W fun r w' => r = .returned (.bool (decide (x.A = o.A))) ∧ Below W.heap.size W w'

set_option maxHeartbeats 4000000 in
set_option maxRecDepth 100000 in
theorem join_no11 {B g : Nat} {c0 c1 pv c3 : Value} {l : List UInt8} (x o : Op5) (s sv : Value) (FL : List Value) (w : World) (h : SbE w B g c0 c1 pv c3 l) (hrow : w.ownsRow B 56 1 pv (FL ++ [pieceQ x s]).length (FL ++ [pieceQ x s])) (hlen : FL.length ≤ 4194304) (hx : x.k = 1) (ho : o.k = 1) (hA : x.A ≠ o.A) (hs : RowA w s x.A) (hsv : RowA w sv o.A) (hl1 : x.A.length ≤ 2097152) (hl2 : o.A.length ≤ 2097152) :
    Calls Tryz.prog 131 #[.pointer (some ⟨g, 0, none⟩), pieceQ o sv] w fun e w' => e = .returned (.tuple #[.nilIface, .bool false]) ∧ Below w.heap.size w w' := by
  have cl := last_one pv FL (pieceQ x s) B w hrow hlen
  have HS : Hid (SameC x o) := fun W v v' h1 h2 => same_any' v v' x.A o.A W h1 h2 (by omega) (by omega)
  obtain ⟨p, cap, hpv⟩ := own_slice hrow
  obtain ⟨av, jv, hs0⟩ := h
  have c2 : w.cell? ⟨g, 2, none⟩ = some pv := by rw [cell_of_heap hs0.at_]; rfl
  have hd : decide (x.A = o.A) = false := decide_eq_false hA
  obtain ⟨nx, hnx⟩ : ∃ z : Int, ((scs x.t.data.toList).length : Int) = z := ⟨_, rfl⟩
  obtain ⟨tx, htx⟩ : ∃ z, x.t = z := ⟨_, rfl⟩
  obtain ⟨no, hno⟩ : ∃ z : Int, ((scs o.t.data.toList).length : Int) = z := ⟨_, rfl⟩
  obtain ⟨tO, htO⟩ : ∃ z, o.t = z := ⟨_, rfl⟩
  obtain ⟨p1, q1, e1, _⟩ := hs.val
  obtain ⟨p2, q2, e2, _⟩ := hsv.val
  rw [e1] at hs
  rw [e2] at hsv
  obtain ⟨l1, hl1'⟩ : ∃ z, x.A.length = z := ⟨_, rfl⟩
  obtain ⟨l2, hl2'⟩ : ∃ z, o.A.length = z := ⟨_, rfl⟩
  rw [pieceQ_1 hx, hnx, htx, e1] at cl
  rw [pieceQ_1 ho, hno, htO, e2]
  rw [hl1'] at cl hs
  rw [hl2'] at hsv ⊢
  have b0 : Below w.heap.size w ((w.alloc (.cells #[.slice p1 l1 q1, .string tx, .int .i64 nx] 183)).alloc (.cells #[.slice p2 l2 q2, .string tO, .int .i64 no] 183)) := ((Below.refl _ _).alloc (Nat.le_refl _) _).alloc (by simp) _
  have cs := HS.out _ _ _ (hs.below b0) (hsv.below b0)
  rw [hd] at cs
  clear hs0 hrow hx ho hpv hnx htx hno htO e1 e2 hs hsv hl1 hl2 hl1' hl2' HS hd hA
  have a0 := as_i_i
  go_enter Tryz.func131, Tryz.ntmps131
  go_wp2_with fail
  refine cl.mono ?_; rintro e w1 ⟨rfl, rfl⟩
  clear cl
  go_wp2_with (go_at_call 154; refine cs.mono ?_; rintro r w2 ⟨rfl, hb2⟩; have b2 := b0.trans (hb2.mono b0.size); clear cs b0 hb2)
  go_ret2
  exact ⟨rfl, b2⟩
set_option maxHeartbeats 4000000 in
set_option maxRecDepth 100000 in
theorem join_no33 {B g : Nat} {c0 c1 pv c3 : Value} {l : List UInt8} (x o : Op5) (s sv : Value) (FL : List Value) (w : World) (h : SbE w B g c0 c1 pv c3 l) (hrow : w.ownsRow B 56 1 pv (FL ++ [pieceQ x s]).length (FL ++ [pieceQ x s])) (hlen : FL.length ≤ 4194304) (hx : x.k = 3) (ho : o.k = 3) (hA : x.A ≠ o.A) (hs : RowA w s x.A) (hsv : RowA w sv o.A) (hl1 : x.A.length ≤ 2097152) (hl2 : o.A.length ≤ 2097152) :
    Calls Tryz.prog 131 #[.pointer (some ⟨g, 0, none⟩), pieceQ o sv] w fun e w' => e = .returned (.tuple #[.nilIface, .bool false]) ∧ Below w.heap.size w w' := by
  have cl := last_one pv FL (pieceQ x s) B w hrow hlen
  have HS : Hid (SameC x o) := fun W v v' h1 h2 => same_any' v v' x.A o.A W h1 h2 (by omega) (by omega)
  obtain ⟨p, cap, hpv⟩ := own_slice hrow
  obtain ⟨av, jv, hs0⟩ := h
  have c2 : w.cell? ⟨g, 2, none⟩ = some pv := by rw [cell_of_heap hs0.at_]; rfl
  have hd : decide (x.A = o.A) = false := decide_eq_false hA
  obtain ⟨cx, hcx⟩ : ∃ z, x.c = z := ⟨_, rfl⟩
  obtain ⟨co, hco⟩ : ∃ z, o.c = z := ⟨_, rfl⟩
  obtain ⟨p1, q1, e1, _⟩ := hs.val
  obtain ⟨p2, q2, e2, _⟩ := hsv.val
  rw [e1] at hs
  rw [e2] at hsv
  obtain ⟨l1, hl1'⟩ : ∃ z, x.A.length = z := ⟨_, rfl⟩
  obtain ⟨l2, hl2'⟩ : ∃ z, o.A.length = z := ⟨_, rfl⟩
  rw [pieceQ_3 hx, hcx, e1] at cl
  rw [pieceQ_3 ho, hco, e2]
  rw [hl1'] at cl hs
  rw [hl2'] at hsv ⊢
  have b0 : Below w.heap.size w ((w.alloc (.cells #[.slice p1 l1 q1, .int .i64 cx] 151)).alloc (.cells #[.slice p2 l2 q2, .int .i64 co] 151)) := ((Below.refl _ _).alloc (Nat.le_refl _) _).alloc (by simp) _
  have cs := HS.out _ _ _ (hs.below b0) (hsv.below b0)
  rw [hd] at cs
  clear hs0 hrow hx ho hpv hcx hco e1 e2 hs hsv hl1 hl2 hl1' hl2' HS hd hA
  have a0 := as_r_r
  have a1 := as_r_i
  go_enter Tryz.func131, Tryz.ntmps131
  go_wp2_with fail
  refine cl.mono ?_; rintro e w1 ⟨rfl, rfl⟩
  clear cl
  go_wp2_with (go_at_call 154; refine cs.mono ?_; rintro r w2 ⟨rfl, hb2⟩; have b2 := b0.trans (hb2.mono b0.size); clear cs b0 hb2)
  go_ret2
  exact ⟨rfl, b2⟩
set_option maxHeartbeats 4000000 in
set_option maxRecDepth 100000 in
theorem join_yes33 {B g : Nat} {c0 c1 pv c3 : Value} {l : List UInt8} (x o : Op5) (s sv : Value) (FL : List Value) (w : World) (h : SbE w B g c0 c1 pv c3 l) (hrow : w.ownsRow B 56 1 pv (FL ++ [pieceQ x s]).length (FL ++ [pieceQ x s])) (hlen : FL.length ≤ 4194304) (hx : x.k = 3) (ho : o.k = 3) (hA : x.A = o.A) (hs : RowA w s x.A) (hsv : RowA w sv o.A) (hl1 : x.A.length ≤ 2097152) (hl2 : o.A.length ≤ 2097152) (hc1 : 0 ≤ x.c ∧ 0 ≤ o.c ∧ x.c + o.c ≤ 4398046511104) :
    Calls Tryz.prog 131 #[.pointer (some ⟨g, 0, none⟩), pieceQ o sv] w fun e w' => e = .returned (.tuple #[pieceQ (jnO x o) s, .bool true]) ∧ Below w.heap.size w w' := by
  have cl := last_one pv FL (pieceQ x s) B w hrow hlen
  have HS : Hid (SameC x o) := fun W v v' h1 h2 => same_any' v v' x.A o.A W h1 h2 (by omega) (by omega)
  obtain ⟨p, cap, hpv⟩ := own_slice hrow
  obtain ⟨av, jv, hs0⟩ := h
  have c2 : w.cell? ⟨g, 2, none⟩ = some pv := by rw [cell_of_heap hs0.at_]; rfl
  have hd : decide (x.A = o.A) = true := decide_eq_true hA
  have hj : (jnO x o).c = x.c + o.c := rfl
  rw [pieceQ_3 (show (jnO x o).k = 3 from hx), hj]
  obtain ⟨cx, hcx⟩ : ∃ z, x.c = z := ⟨_, rfl⟩
  obtain ⟨co, hco⟩ : ∃ z, o.c = z := ⟨_, rfl⟩
  rw [hcx, hco] at hc1
  obtain ⟨hc1, hc2, hc3⟩ := hc1
  obtain ⟨p1, q1, e1, _⟩ := hs.val
  obtain ⟨p2, q2, e2, _⟩ := hsv.val
  rw [e1] at hs
  rw [e2] at hsv
  obtain ⟨l1, hl1'⟩ : ∃ z, x.A.length = z := ⟨_, rfl⟩
  obtain ⟨l2, hl2'⟩ : ∃ z, o.A.length = z := ⟨_, rfl⟩
  rw [pieceQ_3 hx, hcx, e1] at cl
  rw [pieceQ_3 ho, hcx, hco, e1, e2]
  rw [hl1'] at cl hs ⊢
  rw [hl2'] at hsv ⊢
  have b0 : Below w.heap.size w ((w.alloc (.cells #[.slice p1 l1 q1, .int .i64 cx] 151)).alloc (.cells #[.slice p2 l2 q2, .int .i64 co] 151)) := ((Below.refl _ _).alloc (Nat.le_refl _) _).alloc (by simp) _
  have k0 : ((w.alloc (.cells #[.slice p1 l1 q1, .int .i64 cx] 151)).alloc (.cells #[.slice p2 l2 q2, .int .i64 co] 151)).heap[w.heap.size]? = some (.cells #[.slice p1 l1 q1, .int .i64 cx] 151 (0, 0)) := by
    rw [Lib.alloc_old _ _ _ (by simp)]; exact heap_alloc_new w _
  have k1 : ((w.alloc (.cells #[.slice p1 l1 q1, .int .i64 cx] 151)).alloc (.cells #[.slice p2 l2 q2, .int .i64 co] 151)).heap[w.heap.size + 1]? = some (.cells #[.slice p2 l2 q2, .int .i64 co] 151 (0, 0)) := by
    have := heap_alloc_new (w.alloc (.cells #[.slice p1 l1 q1, .int .i64 cx] 151)) (.cells #[.slice p2 l2 q2, .int .i64 co] 151)
    rw [World.size_alloc] at this
    exact this
  have cs := HS.out _ _ _ (hs.below b0) (hsv.below b0)
  rw [hd] at cs
  clear hs0 hrow hx ho hpv hcx hco e1 e2 hs hsv hl1 hl2 hl1' hl2' HS hd hA hj
  have a0 := as_r_r
  have a1 := as_r_i
  go_enter Tryz.func131, Tryz.ntmps131
  go_wp2_with fail
  refine cl.mono ?_; rintro e w1 ⟨rfl, rfl⟩
  clear cl
  go_wp2_with fail
  refine cs.mono ?_; rintro r w2 ⟨rfl, hb2⟩
  have b2 := b0.trans (hb2.mono b0.size)
  have m0 := (hb2.block _ (by simp only [World.size_alloc]; omega)).trans k0
  have m1 := (hb2.block _ (by simp only [World.size_alloc]; omega)).trans k1
  have d0 : w2.cell? ⟨w1.heap.size, 0, none⟩ = some (.slice p1 l1 q1) := by rw [cell_of_heap m0]; rfl
  have d1 : w2.cell? ⟨w1.heap.size, 1, none⟩ = some (.int .i64 cx) := by rw [cell_of_heap m0]; rfl
  have d2 : w2.cell? ⟨w1.heap.size + 1, 1, none⟩ = some (.int .i64 co) := by rw [cell_of_heap m1]; rfl
  have f1 : w2.frozen? ⟨w1.heap.size, 1, none⟩ = false := frozen_of_heap m0 1
  clear cs b0 hb2 k0 k1 m0 m1
  go_wp2
  go_ret2
  exact ⟨rfl, b2.setCell (Nat.le_refl _) _⟩
set_option maxHeartbeats 4000000 in
set_option maxRecDepth 100000 in
theorem join_yes11 {B g : Nat} {c0 c1 pv c3 : Value} {l : List UInt8} (x o : Op5) (s sv : Value) (FL : List Value) (w : World) (h : SbE w B g c0 c1 pv c3 l) (hrow : w.ownsRow B 56 1 pv (FL ++ [pieceQ x s]).length (FL ++ [pieceQ x s])) (hlen : FL.length ≤ 4194304) (hx : x.k = 1) (ho : o.k = 1) (hA : x.A = o.A) (hs : RowA w s x.A) (hsv : RowA w sv o.A) (hl1 : x.A.length ≤ 2097152) (hl2 : o.A.length ≤ 2097152) (hl : l = [] ∨ l = x.t.data.toList) (ix : Ins x) (io : Ins o) (hsz : x.t.size + o.t.size ≤ 16777216) (hB : B ≤ w.heap.size) :
    Calls Tryz.prog 131 #[.pointer (some ⟨g, 0, none⟩), pieceQ o sv] w fun e w' => e = .returned (.tuple #[pieceQ (jnO x o) s, .bool true]) ∧ SbE w' B g c0 c1 pv c3 (x.t ++ o.t).data.toList ∧ FrB B (fun k => k ≠ g) w w' := by
  have cl := last_one pv FL (pieceQ x s) B w hrow hlen
  have HS : Hid (SameC x o) := fun W v v' h1 h2 => same_any' v v' x.A o.A W h1 h2 (by omega) (by omega)
  have HJ : Hid (∀ W, Below w.heap.size w W → Calls Tryz.prog 155 #[.pointer (some ⟨g, 0, none⟩), .string x.t, .string o.t] W fun e w' => e = .returned (.string (x.t ++ o.t)) ∧ SbE w' B g c0 c1 pv c3 (x.t ++ o.t).data.toList ∧ FrB B (fun k => k ≠ g) W w') := fun W hW =>
    joinText_any B g c0 c1 pv c3 l x.t o.t W (h.below hW) hl (isEmp_size ix.full) hsz (Nat.le_trans hB hW.size)
  have hgw : g < w.heap.size := by obtain ⟨_, _, h⟩ := h; exact h.lt
  obtain ⟨p, cap, hpv⟩ := own_slice hrow
  obtain ⟨av, jv, hs0⟩ := h
  have c2 : w.cell? ⟨g, 2, none⟩ = some pv := by rw [cell_of_heap hs0.at_]; rfl
  have hd : decide (x.A = o.A) = true := decide_eq_true hA
  have hj : (jnO x o).t = x.t ++ o.t := rfl
  have hn := jnO_len ix.utf io.utf
  have hvx := (valid_text x.t ix.utf).2.2
  have hvo := (valid_text o.t io.utf).2.2
  rw [pieceQ_1 (show (jnO x o).k = 1 from hx), hj, hn]
  obtain ⟨nx, hnx⟩ : ∃ z : Int, ((scs x.t.data.toList).length : Int) = z := ⟨_, rfl⟩
  obtain ⟨no, hno⟩ : ∃ z : Int, ((scs o.t.data.toList).length : Int) = z := ⟨_, rfl⟩
  have hn1 : 0 ≤ nx ∧ nx ≤ 16777216 := by omega
  have hn2 : 0 ≤ no ∧ no ≤ 16777216 := by omega
  obtain ⟨hn1, hn3⟩ := hn1
  obtain ⟨hn2, hn4⟩ := hn2
  rw [hnx, hno]
  obtain ⟨tj, htj⟩ : ∃ z, x.t ++ o.t = z := ⟨_, rfl⟩
  rw [htj] at HJ ⊢
  obtain ⟨tx, htx⟩ : ∃ z, x.t = z := ⟨_, rfl⟩
  obtain ⟨tO, htO⟩ : ∃ z, o.t = z := ⟨_, rfl⟩
  rw [htx, htO] at HJ
  obtain ⟨p1, q1, e1, _⟩ := hs.val
  obtain ⟨p2, q2, e2, _⟩ := hsv.val
  rw [e1] at hs
  rw [e2] at hsv
  obtain ⟨l1, hl1'⟩ : ∃ z, x.A.length = z := ⟨_, rfl⟩
  obtain ⟨l2, hl2'⟩ : ∃ z, o.A.length = z := ⟨_, rfl⟩
  rw [pieceQ_1 hx, hnx, htx, e1] at cl
  rw [pieceQ_1 ho, hno, htO, e1, e2]
  rw [hl1'] at cl hs ⊢
  rw [hl2'] at hsv ⊢
  have b0 : Below w.heap.size w ((w.alloc (.cells #[.slice p1 l1 q1, .string tx, .int .i64 nx] 183)).alloc (.cells #[.slice p2 l2 q2, .string tO, .int .i64 no] 183)) := ((Below.refl _ _).alloc (Nat.le_refl _) _).alloc (by simp) _
  have k0 : ((w.alloc (.cells #[.slice p1 l1 q1, .string tx, .int .i64 nx] 183)).alloc (.cells #[.slice p2 l2 q2, .string tO, .int .i64 no] 183)).heap[w.heap.size]? = some (.cells #[.slice p1 l1 q1, .string tx, .int .i64 nx] 183 (0, 0)) := by
    rw [Lib.alloc_old _ _ _ (by simp)]; exact heap_alloc_new w _
  have k1 : ((w.alloc (.cells #[.slice p1 l1 q1, .string tx, .int .i64 nx] 183)).alloc (.cells #[.slice p2 l2 q2, .string tO, .int .i64 no] 183)).heap[w.heap.size + 1]? = some (.cells #[.slice p2 l2 q2, .string tO, .int .i64 no] 183 (0, 0)) := by
    have := heap_alloc_new (w.alloc (.cells #[.slice p1 l1 q1, .string tx, .int .i64 nx] 183)) (.cells #[.slice p2 l2 q2, .string tO, .int .i64 no] 183)
    rw [World.size_alloc] at this
    exact this
  have cs := HS.out _ _ _ (hs.below b0) (hsv.below b0)
  rw [hd] at cs
  have HB : Hid (B ≤ w.heap.size ∧ g < w.heap.size) := ⟨hB, hgw⟩
  clear hs0 hrow hx ho hpv e1 e2 hs hsv hl1 hl2 hl1' hl2' HS hd hA hj hn hvx hvo hnx hno htj htx htO ix io hsz hl hB hgw
  have a0 := as_i_i
  go_enter Tryz.func131, Tryz.ntmps131
  go_wp2_with fail
  refine cl.mono ?_; rintro e w1 ⟨rfl, rfl⟩
  clear cl
  go_wp2_with fail
  refine cs.mono ?_; rintro r w2 ⟨rfl, hb2⟩
  have b2 := b0.trans (hb2.mono b0.size)
  have m0 := (hb2.block _ (by simp only [World.size_alloc]; omega)).trans k0
  have m1 := (hb2.block _ (by simp only [World.size_alloc]; omega)).trans k1
  have d1 : w2.cell? ⟨w1.heap.size, 1, none⟩ = some (.string tx) := by rw [cell_of_heap m0]; rfl
  have d2 : w2.cell? ⟨w1.heap.size + 1, 1, none⟩ = some (.string tO) := by rw [cell_of_heap m1]; rfl
  have cj := HJ.out _ b2
  have HM : Hid (w2.heap[w1.heap.size]? = _ ∧ w2.heap[w1.heap.size + 1]? = _ ∧ Below w1.heap.size w1 w2) := ⟨m0, m1, b2⟩
  clear cs b0 hb2 k0 k1 HJ m0 m1 b2
  go_wp2_with fail
  refine cj.mono ?_; rintro r w3 ⟨rfl, h3, f3⟩
  have m0 := f3.kept _ _ HM.out.1 (by have := HB.out.2; omega) (fun c fz e => by simp only [Obj.cells.injEq] at e; exact absurd e.2.1 (by decide))
  have m1 := f3.kept _ _ HM.out.2.1 (by have := HB.out.2; omega) (fun c fz e => by simp only [Obj.cells.injEq] at e; exact absurd e.2.1 (by decide))
  have e0 : w3.cell? ⟨w1.heap.size, 0, none⟩ = some (.slice p1 l1 q1) := by rw [cell_of_heap m0]; rfl
  have e1 : w3.cell? ⟨w1.heap.size, 1, none⟩ = some (.string tx) := by rw [cell_of_heap m0]; rfl
  have e2 : w3.cell? ⟨w1.heap.size, 2, none⟩ = some (.int .i64 nx) := by rw [cell_of_heap m0]; rfl
  have e3 : w3.cell? ⟨w1.heap.size + 1, 2, none⟩ = some (.int .i64 no) := by rw [cell_of_heap m1]; rfl
  have g1 : w3.frozen? ⟨w1.heap.size, 1, none⟩ = false := frozen_of_heap m0 1
  have g2 : w3.frozen? ⟨w1.heap.size, 2, none⟩ = false := frozen_of_heap m0 2
  have m0' : (w3.setCell ⟨w1.heap.size, 1, none⟩ (.string tj)).heap[w1.heap.size]? = some (.cells #[.slice p1 l1 q1, .string tj, .int .i64 nx] 183 (0, 0)) := by rw [heap_set_at _ _ _ _ _ _ _ m0]; rfl
  have HS3 : Hid (SbE ((w3.setCell ⟨w1.heap.size, 1, none⟩ (.string tj)).setCell ⟨w1.heap.size, 2, none⟩ (.int .i64 (nx + no))) B g c0 c1 pv c3 tj.data.toList) := (h3.set_other m0 (by decide) (by decide) _).set_other m0' (by decide) (by decide) _
  have HF3 : Hid (FrB B (fun k => k ≠ g) w1 ((w3.setCell ⟨w1.heap.size, 1, none⟩ (.string tj)).setCell ⟨w1.heap.size, 2, none⟩ (.int .i64 (nx + no)))) := by
    have h0 : FrB B (fun k => k ≠ g ∧ k < w1.heap.size) w1 w3 := (FrB.of_below HM.out.2.2 HB.out.1).trans (f3.mono fun k hk => hk.1)
    have h1 := (h0.setCell m0 (by decide) HB.out.1 (by omega) (j := 1) (.string tj)).setCell m0' (by decide) HB.out.1 (by omega) (j := 2) (.int .i64 (nx + no))
    exact ⟨h1.below, fun k o ho hk hn => h1.kept k o ho ⟨hk, (Array.getElem?_eq_some_iff.1 ho).1⟩ hn, h1.keepA⟩
  clear cj h3 f3 m0 m1 m0' d1 d2 HM HB
  go_wp2
  go_ret2
  exact ⟨rfl, HS3.out, HF3.out⟩
end Go.Proofs.YtplnojapnaaakaaGreatDoor

/- build: add and settle: a piece put behind the others. -/
namespace Go.Proofs.YtplnojapnaaakaaGreatDoor
open Go Go.RowKit Go.Lib
set_option linter.unusedVariables false
/-- append(own, one piece), with where the new slice lies. -/
theorem wpList_append_piAt {w : World} {ops : Array Oper} {rest : List Oper} {o : Oper} {a : Act} {Q : Exit → Act → World → Prop} (hgd : o.guard = none) (s x : Operand)
    (ho : o.op = .call { callee := .builtin .append, args := #[s, x], argTypes := #[88, 88] })
    (base : Nat) (v : Value) (P : List Value) (hs : a.eval s = v) (hown : OwnI w base v P)
    (b c : Nat) (u : Value) (hx : a.eval x = .slice (some ⟨b, 0, none⟩) 1 c) (hu : w.cell? ⟨b, 0, none⟩ = some u) (h1 : u.oneCell' = true)
    (h63 : P.length ≤ 8388608) (hbase : base ≤ w.heap.size)
    (h : ∀ v' w', OwnI w' base v' (P ++ [u]) → w.grownBy w' v.ownBlock → (v'.ownBlock = v.ownBlock ∨ v'.ownBlock = some w.heap.size) → wpList Tryz.prog ops Q rest (a.put o.dst v') w') : wpList Tryz.prog ops Q (o :: rest) a w := by
  obtain ⟨i, z, hi, hz, hz1, hz2, hz3⟩ := infoPi
  exact wpList_append_own_at _ hgd s x _ ho base 56 i z 1 16 Tryz.underlying88 hi hz hz1 hz2 hz3 (by decide) v P.length P hs hown ⟨b, 0, none⟩ 1 c [u] hx rfl (by intro j y hj; cases j with | zero => (simp at hj; subst hj; exact hu) | succ j => simp at hj) (fun y hy => by rw [List.mem_singleton.1 hy]; exact h1) (by unfold maxLen; omega) (by omega) hbase (fun v' w' h1 h2 _ h3 => h v' w' (by show w'.ownsRow _ _ _ _ _ _; rw [List.length_append]; exact h1) h2 h3)

/-- A builder in memory: what it has gathered. -/
structure Bld (w : World) (B : Nat) (D : Nat → Prop) (g : Nat) (b r : Int) (P : List Op5) (d : Int) (pv : Value) (PL : List Value) (l : List UInt8) : Prop where
  sb : SbE w B g (.int .i64 b) (.int .i64 r) pv (.int .i64 d) l
  nd : ¬ D g
  row : OwnI w B pv PL
  rnd : ∀ k, pv.ownBlock = some k → ¬ D k
  pie : PieD w B PL P
  txt : l = [] ∨ ∃ F x, P = F ++ [x] ∧ x.k = 1 ∧ l = x.t.data.toList
def BldE (w : World) (B : Nat) (D : Nat → Prop) (g : Nat) (b r : Int) (P : List Op5) (d : Int) : Prop := ∃ pv PL l, Bld w B D g b r P d pv PL l

theorem SbE.cells {w : World} {B g : Nat} {c0 c1 c2 c3 : Value} {l : List UInt8} (h : SbE w B g c0 c1 c2 c3 l) : w.cell? ⟨g, 0, none⟩ = some c0 ∧ w.cell? ⟨g, 1, none⟩ = some c1 ∧ w.cell? ⟨g, 2, none⟩ = some c2 ∧ w.cell? ⟨g, 3, none⟩ = some c3 ∧ (∀ j, w.frozen? ⟨g, j, none⟩ = false) ∧ B ≤ g ∧ ∃ cs, w.heap[g]? = some (.cells cs 94 (0, 0)) := by
  obtain ⟨av, jv, h⟩ := h
  refine ⟨?_, ?_, ?_, ?_, fun j => frozen_of_heap h.at_ j, h.lo, _, h.at_⟩ <;> (rw [cell_of_heap h.at_]; rfl)
theorem SbE.lt {w : World} {B g : Nat} {c0 c1 c2 c3 : Value} {l : List UInt8} (h : SbE w B g c0 c1 c2 c3 l) : g < w.heap.size := by obtain ⟨av, jv, h⟩ := h; exact h.lt
theorem SbE.set0 {w : World} {B g : Nat} {c0 c1 c2 c3 : Value} {l : List UInt8} (h : SbE w B g c0 c1 c2 c3 l) (u : Value) : SbE (w.setCell ⟨g, 0, none⟩ u) B g u c1 c2 c3 l := by
  obtain ⟨av, jv, h⟩ := h
  exact ⟨av, jv, h.lo, by rw [heap_set_at _ _ _ _ _ _ _ h.at_]; rfl, rowF_same h.buf fun k hk => Below.heap_setCell _ _ _ _ (fun e => h.ne (by rw [hk, e])), h.adr⟩
theorem SbE.set1 {w : World} {B g : Nat} {c0 c1 c2 c3 : Value} {l : List UInt8} (h : SbE w B g c0 c1 c2 c3 l) (u : Value) : SbE (w.setCell ⟨g, 1, none⟩ u) B g c0 u c2 c3 l := by
  obtain ⟨av, jv, h⟩ := h
  exact ⟨av, jv, h.lo, by rw [heap_set_at _ _ _ _ _ _ _ h.at_]; rfl, rowF_same h.buf fun k hk => Below.heap_setCell _ _ _ _ (fun e => h.ne (by rw [hk, e])), h.adr⟩
theorem SbE.set2 {w : World} {B g : Nat} {c0 c1 c2 c3 : Value} {l : List UInt8} (h : SbE w B g c0 c1 c2 c3 l) (u : Value) : SbE (w.setCell ⟨g, 2, none⟩ u) B g c0 c1 u c3 l := by
  obtain ⟨av, jv, h⟩ := h
  exact ⟨av, jv, h.lo, by rw [heap_set_at _ _ _ _ _ _ _ h.at_]; rfl, rowF_same h.buf fun k hk => Below.heap_setCell _ _ _ _ (fun e => h.ne (by rw [hk, e])), h.adr⟩
theorem SbE.set3 {w : World} {B g : Nat} {c0 c1 c2 c3 : Value} {l : List UInt8} (h : SbE w B g c0 c1 c2 c3 l) (u : Value) : SbE (w.setCell ⟨g, 3, none⟩ u) B g c0 c1 c2 u l := by
  obtain ⟨av, jv, h⟩ := h
  exact ⟨av, jv, h.lo, by rw [heap_set_at _ _ _ _ _ _ _ h.at_]; rfl, rowF_same h.buf fun k hk => Below.heap_setCell _ _ _ _ (fun e => h.ne (by rw [hk, e])), h.adr⟩
theorem SbE.grown {w w' : World} {B g : Nat} {c0 c1 c2 c3 : Value} {l : List UInt8} {row : Option Nat} (h : SbE w B g c0 c1 c2 c3 l) (hg : w.grownBy w' row) (hr : ∀ k, row = some k → ∃ cs T fz, w.heap[k]? = some (.cells cs T fz) ∧ T ≠ 94 ∧ T ≠ 5) : SbE w' B g c0 c1 c2 c3 l := by
  obtain ⟨av, jv, h⟩ := h
  have key : ∀ (k : Nat) (cs : Array Value) (T : TypeId) (fz : Nat × Nat), w.heap[k]? = some (Obj.cells cs T fz) → T = 94 ∨ T = 5 → w'.heap[k]? = w.heap[k]? := fun k cs T fz hk hT => by
    refine hg.block k (Array.getElem?_eq_some_iff.1 hk).1 fun e => ?_
    obtain ⟨cs', T', fz', h1, h2, h3⟩ := hr k e.symm
    rw [hk] at h1
    simp only [Option.some.injEq, Obj.cells.injEq] at h1
    rcases hT with hT | hT
    · exact h2 (h1.2.1 ▸ hT)
    · exact h3 (h1.2.1 ▸ hT)
  refine ⟨av, jv, h.lo, (key _ _ _ _ h.at_ (Or.inl rfl)).trans h.at_, rowF_same h.buf fun k hk => ?_, h.adr⟩
  rcases h.buf.2 with ⟨rfl, _⟩ | ⟨g', cap, cur, fz, rfl, _, hgg, _⟩
  · cases hk
  · simp only [Value.ownBlock, Option.some.injEq] at hk
    obtain rfl := hk
    exact key _ _ _ _ hgg (Or.inr rfl)
theorem own_ne {w : World} {B g : Nat} {v : Value} {n : Nat} {PL : List Value} {cs : Array Value} {fz : Nat × Nat} (h : w.ownsRow B 56 1 v n PL) (hg : w.heap[g]? = some (.cells cs 94 fz)) : v.ownBlock ≠ some g := fun e => by
  obtain ⟨_, cur, h2⟩ := owns_block h g e
  rw [h2] at hg
  simp only [Option.some.injEq, Obj.cells.injEq] at hg
  exact absurd hg.2.1 (by decide)
theorem Bld.below {w w' : World} {B : Nat} {D : Nat → Prop} {g : Nat} {b r : Int} {P : List Op5} {d : Int} {pv : Value} {PL : List Value} {l : List UInt8} (h : Bld w B D g b r P d pv PL l) (hb : Below w.heap.size w w') : Bld w' B D g b r P d pv PL l :=
  ⟨h.sb.below hb, h.nd, owns_below h.row hb, h.rnd, h.pie.below hb, h.txt⟩
/-- Rows of pieces stand while the builder's own block is written. -/
theorem FrB.rowI {w w' : World} {B g : Nat} {v : Value} {n : Nat} {PL : List Value} {cs : Array Value} {fz : Nat × Nat} (f : FrB B (fun k => k ≠ g) w w') (h : w.ownsRow B 56 1 v n PL) (hg : w.heap[g]? = some (.cells cs 94 fz)) : w'.ownsRow B 56 1 v n PL :=
  owns_same h fun k hk => by
    obtain ⟨_, cur, h2⟩ := owns_block h k hk
    rw [h2]
    exact f.kept k _ h2 (fun e => own_ne h hg (by rw [hk, e])) (fun c fz e => by simp only [Obj.cells.injEq] at e; exact absurd e.2.1 (by decide))

set_option maxHeartbeats 4000000 in
set_option maxRecDepth 100000 in
theorem add_app {B g : Nat} {D : Nat → Prop} {b r : Int} {P : List Op5} {d : Int} {pv : Value} {PL : List Value} {l : List UInt8} (o : Op5) (sv : Value) (w : World) (h : Bld w B D g b r P d pv PL l) (hsv : OwnA w B sv o.A) (hD : ∀ k, D k → k < w.heap.size) (hl : P.length ≤ 4194304)
    (cj : Calls Tryz.prog 131 #[.pointer (some ⟨g, 0, none⟩), pieceQ o sv] w fun e w' => e = .returned (.tuple #[.nilIface, .bool false]) ∧ Below w.heap.size w w') :
    Calls Tryz.prog 106 #[.pointer (some ⟨g, 0, none⟩), pieceQ o sv] w fun e w' => e = .returned (.tuple #[]) ∧ BldE w' B D g b r (P ++ [o]) d ∧ FrB B D w w' := by
  have hPL : PL.length ≤ 8388608 := by rw [forall2_len h.pie]; omega
  have hw : B ≤ w.heap.size := by have := h.sb.lt; have := h.sb.cells.2.2.2.2.2.1; omega
  obtain ⟨u, y, hux⟩ := pieceQ_if o sv
  have HX : Hid (pieceQ o sv = .iface u y) := hux
  have HH : Hid (Bld w B D g b r P d pv PL l ∧ OwnA w B sv o.A ∧ (∀ k, D k → k < w.heap.size) ∧ B ≤ w.heap.size) := ⟨h, hsv, hD, hw⟩
  rw [hux] at cj ⊢
  clear h hsv hD hl hux hw
  go_enter Tryz.func106, Tryz.ntmps106
  go_wp2_with fail
  refine cj.mono ?_; rintro e w1 ⟨rfl, hb1⟩
  have H1 := HH.out.1.below hb1
  have cr := sbReset_any B g _ _ _ _ _ w1 H1.sb
  have HK : Hid (Bld w1 B D g b r P d pv PL l ∧ Below w.heap.size w w1) := ⟨H1, hb1⟩
  clear cj hb1 H1
  go_wp2_with fail
  refine cr.mono ?_; rintro e w2 ⟨rfl, h2, f2⟩
  obtain ⟨_, _, q2, _, fz2, hBg, cs2, hk2⟩ := h2.cells
  obtain ⟨_, _, _, _, _, _, cs1, hk1⟩ := HK.out.1.sb.cells
  have r2 := f2.rowI HK.out.1.row hk1
  have p2 : PieD w2 B PL P := HK.out.1.pie.keep f2.keepA
  have s2 : OwnA w2 B sv o.A := keepA_own (owns_below HH.out.2.1 HK.out.2) f2.keepA
  have F2 : FrB B D w w2 := (FrB.of_below HK.out.2 HH.out.2.2.2).trans (f2.mono fun k hk e => HH.out.1.nd (e ▸ hk))
  have ba : Below w2.heap.size w2 (w2.alloc (.cells #[.iface u y] 56)) := (Below.refl _ _).alloc (Nat.le_refl _) _
  have hB2 : B ≤ w2.heap.size := Nat.le_trans HH.out.2.2.2 F2.below.size
  have HG : Hid (SbE (w2.alloc (.cells #[.iface u y] 56)) B g (.int .i64 b) (.int .i64 r) pv (.int .i64 d) [] ∧ PieD (w2.alloc (.cells #[.iface u y] 56)) B PL P ∧ OwnA (w2.alloc (.cells #[.iface u y] 56)) B sv o.A ∧ FrB B D w (w2.alloc (.cells #[.iface u y] 56)) ∧ B ≤ g ∧ w.heap.size ≤ w2.heap.size) := ⟨h2.below ba, p2.below ba, owns_below s2 ba, F2.alloc hB2 _, hBg, F2.below.size⟩
  have HR : OwnI (w2.alloc (.cells #[.iface u y] 56)) B pv PL := owns_below r2 ba
  have hu6 : (w2.alloc (.cells #[.iface u y] 56)).cell? ⟨w2.heap.size, 0, none⟩ = some (.iface u y) := by simp
  have hbs : B ≤ (w2.alloc (.cells #[.iface u y] 56)).heap.size := Nat.le_trans hB2 ba.size
  have HKR : Hid (OwnI (w2.alloc (.cells #[.iface u y] 56)) B pv PL) := HR
  clear cr h2 f2 r2 p2 s2 F2 hk1 hk2 ba HK HR
  have HW : Hid (∀ (p8 : Option Addr) (c8 : Nat) (w8 : World), OwnI w8 B (.slice p8 (PL ++ [Value.iface u y]).length c8) (PL ++ [.iface u y]) → (w2.alloc (.cells #[.iface u y] 56)).grownBy w8 pv.ownBlock → ((Value.slice p8 (PL ++ [Value.iface u y]).length c8).ownBlock = pv.ownBlock ∨ (Value.slice p8 (PL ++ [Value.iface u y]).length c8).ownBlock = some (w2.alloc (.cells #[.iface u y] 56)).heap.size) →
      w8.cell? ⟨g, 2, none⟩ = some pv ∧ w8.frozen? ⟨g, 2, none⟩ = false ∧ BldE (w8.setCell ⟨g, 2, none⟩ (.slice p8 (PL ++ [Value.iface u y]).length c8)) B D g b r (P ++ [o]) d ∧ FrB B D w (w8.setCell ⟨g, 2, none⟩ (.slice p8 (PL ++ [Value.iface u y]).length c8))) := fun p8 c8 w8 z1 z4 z5 => by
    have hrow : ∀ k, pv.ownBlock = some k → ∃ cs T fz, (w2.alloc (.cells #[.iface u y] 56)).heap[k]? = some (.cells cs T fz) ∧ T ≠ 94 ∧ T ≠ 5 := fun k hk => by
      obtain ⟨_, cur, h2⟩ := owns_block HKR.out k hk
      exact ⟨cur, _, _, h2, by decide, by decide⟩
    obtain ⟨y1, y2, y3, y4, y5, y6⟩ := HG.out
    have z2 := y1.grown z4 hrow
    have z3 := keepA_grownI HKR.out z4
    obtain ⟨_, _, m2, _, mf, _, cs8, hk8⟩ := z2.cells
    have ne8 := own_ne z1 hk8
    refine ⟨m2, mf 2, ⟨_, _, [], z2.set2 _, HH.out.1.nd, ownsRow_setCell_other z1 ne8 _, fun k hk => ?_, ?_, Or.inl rfl⟩, ?_⟩
    · rcases z5 with e | e
      · exact HH.out.1.rnd k (by rw [← e]; exact hk)
      · intro hd
        rw [e] at hk
        have := HH.out.2.2.1 k hd
        simp only [Option.some.injEq, World.size_alloc] at hk
        omega
    · have hA : KeepA w8 (w8.setCell ⟨g, 2, none⟩ (.slice p8 (PL ++ [Value.iface u y]).length c8)) := ((FrB.refl B (fun k => k ≠ g) w8).setCell hk8 (by decide) y5 (by simp) _).keepA
      exact PieD.keep (forall2_append (y2.keep z3) (.cons ⟨sv, HX.out.symm, keepA_own y3 z3⟩ .nil)) hA
    · refine (y4.grown z4 (Nat.le_trans HH.out.2.2.2 (by rw [World.size_alloc]; omega)) fun k hk => ?_).setCell hk8 (by decide) y5 HH.out.1.nd _
      obtain ⟨hB, cur, h2⟩ := owns_block HKR.out k hk
      exact ⟨hB, cur, _, _, h2, by decide, fun hd => absurd hd (HH.out.1.rnd k hk)⟩
  clear HG HH HX hBg hB2
  go_wp2_with (at_builtin; refine wpList_append_piAt rfl (.tmp 33) (.tmp 35) rfl B pv PL rfl HKR.out w2.heap.size 1 (.iface u y) rfl hu6 rfl hPL hbs ?_; intro v8 w8 own8 gr8 at8; obtain ⟨p8, c8, rfl⟩ := own_slice own8; obtain ⟨m2, mf2, hq⟩ := HW.out p8 c8 w8 own8 gr8 at8; have HQ : Hid _ := hq; clear own8 gr8 at8 hq HW hu6 q2 HKR)
  go_end0
  refine ⟨rfl, ?_⟩
  have hq := HQ.out
  rw [show (PL ++ [Value.iface u y]).length = PL.length + 1 by simp] at hq
  exact hq
set_option maxHeartbeats 4000000 in
set_option maxRecDepth 100000 in
theorem add_set {B g : Nat} {D : Nat → Prop} {b r : Int} {F : List Op5} {x x' : Op5} {d : Int} {pv : Value} {PL : List Value} {l : List UInt8} (o : Op5) (s sv : Value) (FL : List Value) (w : World) (h : Bld w B D g b r (F ++ [x]) d pv PL l) (hPL : PL = FL ++ [pieceQ x s]) (hF : PieD w B FL F) (hs : OwnA w B s x.A) (hD : ∀ k, D k → k < w.heap.size) (hl : F.length ≤ 4194304) (hA : x'.A = x.A)
    (cj : Calls Tryz.prog 131 #[.pointer (some ⟨g, 0, none⟩), pieceQ o sv] w fun e w' => e = .returned (.tuple #[pieceQ x' s, .bool true]) ∧ (∃ l', SbE w' B g (.int .i64 b) (.int .i64 r) pv (.int .i64 d) l' ∧ (l' = [] ∨ (x'.k = 1 ∧ l' = x'.t.data.toList))) ∧ FrB B (fun k => k ≠ g) w w') :
    Calls Tryz.prog 106 #[.pointer (some ⟨g, 0, none⟩), pieceQ o sv] w fun e w' => e = .returned (.tuple #[]) ∧ BldE w' B D g b r (F ++ [x']) d ∧ FrB B D w w' := by
  obtain ⟨u, y, hux⟩ := pieceQ_if o sv
  obtain ⟨u', y', hux'⟩ := pieceQ_if x' s
  have HX : Hid (pieceQ x' s = .iface u' y') := hux'
  subst hPL
  have hrow := h.row
  obtain ⟨pb, cap, hpv⟩ : ∃ pb cap, pv = .slice (some ⟨pb, 0, none⟩) (FL.length + 1) cap := by
    obtain ⟨q, c, z, e, _⟩ := own_cell hrow FL.length (by simp)
    exact ⟨q, c, by rw [e]; simp⟩
  subst hpv
  obtain ⟨n, hn⟩ : ∃ n, FL.length = n := ⟨_, rfl⟩
  have hn1 : (FL ++ [pieceQ x s]).length = n + 1 := by simp [hn]
  have hnl : n ≤ 4194304 := by rw [← hn, forall2_len hF]; exact hl
  have HH : Hid (Bld w B D g b r (F ++ [x]) d (.slice (some ⟨pb, 0, none⟩) (FL.length + 1) cap) (FL ++ [pieceQ x s]) l ∧ PieD w B FL F ∧ OwnA w B s x.A ∧ FL.length = n) := ⟨h, hF, hs, hn⟩
  rw [hn] at cj
  rw [hux, hux'] at cj
  rw [hux]
  clear h hF hs hD hl hux hux' hrow hn1
  have hz : ((n : Int) + 1) - 1 = (n : Int) := by omega
  go_enter Tryz.func106, Tryz.ntmps106
  go_wp2_with fail
  refine cj.mono ?_; rintro e w1 ⟨rfl, ⟨l', h1, hl'⟩, f1⟩
  obtain ⟨_, _, _, _, _, _, cs0, hk0⟩ := HH.out.1.sb.cells
  obtain ⟨_, _, q2, _, _, hBg, cs1, hk1⟩ := h1.cells
  have r1 := f1.rowI HH.out.1.row hk0
  have hpb : pb ≠ g := fun e => own_ne r1 hk1 (by rw [← e]; rfl)
  obtain ⟨hBpb, cur, hkp⟩ := owns_block r1 pb rfl
  have qc : w1.cell? ⟨pb, n, none⟩ = some (pieceQ x s) := by
    have := r1.cells (g := pb) rfl n (pieceQ x s) (by rw [← HH.out.2.2.2]; simp)
    rw [Addr.add_lit, Nat.zero_add] at this
    exact this
  have qf : w1.frozen? ⟨pb, n, none⟩ = false := frozen_of_heap hkp n
  obtain ⟨old, hold⟩ : ∃ z, pieceQ x s = z := ⟨_, rfl⟩
  have hoi : ∃ u z, old = .iface u z := by rw [← hold]; exact pieceQ_if x s
  rw [hold] at qc
  have HQ : Hid (BldE (w1.drew.setCell ⟨pb, n, none⟩ (.iface u' y')) B D g b r (F ++ [x']) d ∧ FrB B D w (w1.drew.setCell ⟨pb, n, none⟩ (.iface u' y'))) := by
    have hlen : (FL ++ [pieceQ x s]).length = n + 1 := by simp [HH.out.2.2.2]
    have r1' : w1.drew.ownsRow B 56 1 (.slice (some ⟨pb, 0, none⟩) (n + 1) cap) (n + 1) (FL ++ [pieceQ x s]) := by
      have := r1
      rw [HH.out.2.2.2] at this
      rw [hlen] at this
      exact this
    have st := (r1'.stored n (.iface u' y')).1
    have e1 : (FL ++ [pieceQ x s]).set n (.iface u' y') = FL ++ [.iface u' y'] := by rw [← HH.out.2.2.2]; simp
    rw [e1] at st
    have hkp' : w1.drew.heap[pb]? = some (.cells cur 56 (0, 0)) := hkp
    have S1 : SbE w1.drew B g (.int .i64 b) (.int .i64 r) (.slice (some ⟨pb, 0, none⟩) (n + 1) cap) (.int .i64 d) l' := by obtain ⟨a1, a2, a3⟩ := h1; exact ⟨a1, a2, a3.lo, a3.at_, a3.buf, a3.adr⟩
    have hK : KeepA w1.drew (w1.drew.setCell ⟨pb, n, none⟩ (.iface u' y')) := ((FrB.refl B (fun _ => False) w1.drew).setCell hkp' (by decide) hBpb (by simp) _).keepA
    refine ⟨⟨.slice (some ⟨pb, 0, none⟩) (n + 1) cap, FL ++ [.iface u' y'], l', ?_, HH.out.1.nd, ?_, ?_, ?_, ?_⟩, ?_⟩
    · exact S1.set_other hkp' (by decide) (by decide) _
    · show World.ownsRow _ _ _ _ _ _ _
      rw [show (FL ++ [Value.iface u' y']).length = n + 1 by simp [HH.out.2.2.2]]
      exact st
    · have := HH.out.1.rnd
      exact fun k hk => this k hk
    · have p1 : PieD w1.drew B FL F := HH.out.2.1.keep f1.keepA
      have s1 : OwnA w1.drew B s x.A := keepA_own HH.out.2.2.1 f1.keepA
      exact PieD.keep (forall2_append p1 (.cons ⟨s, HX.out.symm, by rw [hA]; exact s1⟩ .nil)) hK
    · rcases hl' with e | ⟨e1, e2⟩
      · exact Or.inl e
      · exact Or.inr ⟨F, x', rfl, e1, e2⟩
    · have f2 : FrB B D w w1.drew := (f1.mono fun k hk e => HH.out.1.nd (e ▸ hk)).drew
      exact f2.setCell hkp' (by decide) hBpb (HH.out.1.rnd pb rfl) _
  have hpg : g ≠ pb := fun e => hpb e.symm
  obtain ⟨uo, zo, rfl⟩ := hoi
  clear cj h1 f1 r1 hkp hl' hk0 hk1 hold HH HX hA
  go_wp2
  go_region
  all_goals go_wp2
  all_goals (refine bodyPost_ret (results_none rfl _ _ _) rfl ?_; exact ⟨rfl, HQ.out⟩)
end Go.Proofs.YtplnojapnaaakaaGreatDoor

/- build: grow: the lengths of what is gathered, with a piece. -/
namespace Go.Proofs.YtplnojapnaaakaaGreatDoor
open Go Go.RowKit Go.Lib
set_option linter.unusedVariables false
theorem SbE.drewN {w : World} {B g : Nat} {c0 c1 c2 c3 : Value} {l : List UInt8} (h : SbE w B g c0 c1 c2 c3 l) (n : Nat) : SbE (w.drewN n) B g c0 c1 c2 c3 l := by obtain ⟨a1, a2, a3⟩ := h; exact ⟨a1, a2, a3.lo, a3.at_, a3.buf, a3.adr⟩
set_option maxHeartbeats 2000000 in
set_option maxRecDepth 100000 in
theorem grow1_o2 {B g : Nat} {c2 c3 : Value} {l : List UInt8} (sv : Value) (t : ByteArray) (n : Int) (hn : 0 ≤ n ∧ n ≤ 1099511627776) (b r : Int) (w : World) (h : SbE w B g (.int .i64 b) (.int .i64 r) c2 c3 l) (hb : 0 ≤ b ∧ b ≤ 1099511627776) (hr : 0 ≤ r ∧ r ≤ 1099511627776) (hB : B ≤ w.heap.size) (e0 : Value) (gL : ∀ W, Below w.heap.size w W → W.cell? ⟨12, 0, none⟩ = some e0) (hob : b ≤ 1099511627776) (hov : 1099511627776 < r + n) :
    Calls Tryz.prog 75 #[.pointer (some ⟨g, 0, none⟩), .iface 183 (.agg #[sv, .string t, .int .i64 n])] w fun e w' => e = .returned e0 ∧ Below w.heap.size w w' := by
  obtain ⟨q0, q1, _, _, _, hBg, _, _⟩ := h.cells
  obtain ⟨hb1, hb2⟩ := hb
  obtain ⟨hr1, hr2⟩ := hr
  obtain ⟨hn1, hn2⟩ := hn
  have hd1 : decide (1099511627776 < b) = false := decide_eq_false (by omega)
  have hd2 : decide (1099511627776 < r + n) = true := decide_eq_true hov
  have GL : Hid _ := gL
  clear h hB gL
  have a0 := as_i_r
  have a1 := as_i_d
  go_enter Tryz.func75, Tryz.ntmps75
  go_wp2
  go_quiet (fail)
  go_wp2_with fail
  refine (ilen_any _ _ _ _).mono ?_; rintro r0 w0 ⟨rfl, hb0'⟩
  have hB0 : Below w.heap.size w w0 := (below_drewN (Below.refl _ _) _).trans hb0'
  clear hb0'
  have gL := GL.out _ hB0
  go_wp2
  go_ret
  exact ⟨rfl, hB0⟩
set_option maxHeartbeats 2000000 in
set_option maxRecDepth 100000 in
theorem grow1_ok {B g : Nat} {c2 c3 : Value} {l : List UInt8} (sv : Value) (t : ByteArray) (n : Int) (hn : 0 ≤ n ∧ n ≤ 1099511627776) (b r : Int) (w : World) (h : SbE w B g (.int .i64 b) (.int .i64 r) c2 c3 l) (hb : 0 ≤ b ∧ b ≤ 1099511627776) (hr : 0 ≤ r ∧ r ≤ 1099511627776) (hB : B ≤ w.heap.size) (hob : b ≤ 1099511627776) (hor : r + n ≤ 1099511627776) :
    Calls Tryz.prog 75 #[.pointer (some ⟨g, 0, none⟩), .iface 183 (.agg #[sv, .string t, .int .i64 n])] w fun e w' => e = .returned .nilIface ∧ SbE w' B g (.int .i64 (b)) (.int .i64 (r + n)) c2 c3 l ∧ FrB B (fun k => k ≠ g) w w' := by
  obtain ⟨q0, q1, _, _, _, hBg, _, _⟩ := h.cells
  obtain ⟨hb1, hb2⟩ := hb
  obtain ⟨hr1, hr2⟩ := hr
  obtain ⟨hn1, hn2⟩ := hn
  have hd1 : decide (1099511627776 < b) = false := decide_eq_false (by omega)
  have hd2 : decide (1099511627776 < r + n) = false := decide_eq_false (by omega)
  have HB : Hid (B ≤ w.heap.size) := hB
  have H0 : Hid (SbE w B g (.int .i64 b) (.int .i64 r) c2 c3 l) := h
  clear h hB
  have a0 := as_i_r
  have a1 := as_i_d
  go_enter Tryz.func75, Tryz.ntmps75
  go_wp2
  go_quiet (fail)
  go_wp2_with fail
  refine (ilen_any _ _ _ _).mono ?_; rintro r0 w0 ⟨rfl, hb0'⟩
  have hB0 : Below w.heap.size w w0 := (below_drewN (Below.refl _ _) _).trans hb0'
  clear hb0'
  have h1 := H0.out.below hB0
  obtain ⟨m0, m1, _, _, mf, _, cs, hk⟩ := h1.cells
  have mf0 := mf 0
  have mf1 := mf 1
  have HS : Hid (SbE ((w0.setCell ⟨g, 0, none⟩ (.int .i64 (b))).setCell ⟨g, 1, none⟩ (.int .i64 (r + n))) B g (.int .i64 (b)) (.int .i64 (r + n)) c2 c3 l ∧ FrB B (fun k => k ≠ g) w ((w0.setCell ⟨g, 0, none⟩ (.int .i64 (b))).setCell ⟨g, 1, none⟩ (.int .i64 (r + n)))) := by
    have s0 := h1.set0 (.int .i64 (b))
    obtain ⟨_, _, _, _, _, _, cs', hk'⟩ := s0.cells
    exact ⟨s0.set1 _, ((FrB.of_below hB0 HB.out).setCell hk (by decide) hBg (by simp) _).setCell hk' (by decide) hBg (by simp) _⟩
  clear h1 hk mf H0 HB
  go_wp2
  go_ret
  exact ⟨rfl, HS.out⟩
set_option maxHeartbeats 2000000 in
set_option maxRecDepth 100000 in
theorem grow2_o2 {B g : Nat} {c2 c3 : Value} {l : List UInt8} (sv : Value) (t : ByteArray) (V : Value) (b r : Int) (w : World) (h : SbE w B g (.int .i64 b) (.int .i64 r) c2 c3 l) (hb : 0 ≤ b ∧ b ≤ 1099511627776) (hr : 0 ≤ r ∧ r ≤ 1099511627776) (hB : B ≤ w.heap.size) (e0 : Value) (gL : ∀ W, Below w.heap.size w W → W.cell? ⟨12, 0, none⟩ = some e0) (hob : b ≤ 1099511627776) (hov : 1099511627776 < r + 1) :
    Calls Tryz.prog 75 #[.pointer (some ⟨g, 0, none⟩), .iface 187 (.agg #[sv, .string t, V])] w fun e w' => e = .returned e0 ∧ Below w.heap.size w w' := by
  obtain ⟨q0, q1, _, _, _, hBg, _, _⟩ := h.cells
  obtain ⟨hb1, hb2⟩ := hb
  obtain ⟨hr1, hr2⟩ := hr
  have hd1 : decide (1099511627776 < b) = false := decide_eq_false (by omega)
  have hd2 : decide (1099511627776 < r + 1) = true := decide_eq_true hov
  have GL : Hid _ := gL
  clear h hB gL
  have a0 := as_e_r
  have a1 := as_e_d
  go_enter Tryz.func75, Tryz.ntmps75
  go_wp2
  go_quiet (fail)
  go_wp2_with fail
  refine (elen_any _ _ _ _).mono ?_; rintro r0 w0 ⟨rfl, hb0'⟩
  have hB0 : Below w.heap.size w w0 := (below_drewN (Below.refl _ _) _).trans hb0'
  clear hb0'
  have gL := GL.out _ hB0
  go_wp2
  go_ret
  exact ⟨rfl, hB0⟩
set_option maxHeartbeats 2000000 in
set_option maxRecDepth 100000 in
theorem grow2_ok {B g : Nat} {c2 c3 : Value} {l : List UInt8} (sv : Value) (t : ByteArray) (V : Value) (b r : Int) (w : World) (h : SbE w B g (.int .i64 b) (.int .i64 r) c2 c3 l) (hb : 0 ≤ b ∧ b ≤ 1099511627776) (hr : 0 ≤ r ∧ r ≤ 1099511627776) (hB : B ≤ w.heap.size) (hob : b ≤ 1099511627776) (hor : r + 1 ≤ 1099511627776) :
    Calls Tryz.prog 75 #[.pointer (some ⟨g, 0, none⟩), .iface 187 (.agg #[sv, .string t, V])] w fun e w' => e = .returned .nilIface ∧ SbE w' B g (.int .i64 (b)) (.int .i64 (r + 1)) c2 c3 l ∧ FrB B (fun k => k ≠ g) w w' := by
  obtain ⟨q0, q1, _, _, _, hBg, _, _⟩ := h.cells
  obtain ⟨hb1, hb2⟩ := hb
  obtain ⟨hr1, hr2⟩ := hr
  have hd1 : decide (1099511627776 < b) = false := decide_eq_false (by omega)
  have hd2 : decide (1099511627776 < r + 1) = false := decide_eq_false (by omega)
  have HB : Hid (B ≤ w.heap.size) := hB
  have H0 : Hid (SbE w B g (.int .i64 b) (.int .i64 r) c2 c3 l) := h
  clear h hB
  have a0 := as_e_r
  have a1 := as_e_d
  go_enter Tryz.func75, Tryz.ntmps75
  go_wp2
  go_quiet (fail)
  go_wp2_with fail
  refine (elen_any _ _ _ _).mono ?_; rintro r0 w0 ⟨rfl, hb0'⟩
  have hB0 : Below w.heap.size w w0 := (below_drewN (Below.refl _ _) _).trans hb0'
  clear hb0'
  have h1 := H0.out.below hB0
  obtain ⟨m0, m1, _, _, mf, _, cs, hk⟩ := h1.cells
  have mf0 := mf 0
  have mf1 := mf 1
  have HS : Hid (SbE ((w0.setCell ⟨g, 0, none⟩ (.int .i64 (b))).setCell ⟨g, 1, none⟩ (.int .i64 (r + 1))) B g (.int .i64 (b)) (.int .i64 (r + 1)) c2 c3 l ∧ FrB B (fun k => k ≠ g) w ((w0.setCell ⟨g, 0, none⟩ (.int .i64 (b))).setCell ⟨g, 1, none⟩ (.int .i64 (r + 1)))) := by
    have s0 := h1.set0 (.int .i64 (b))
    obtain ⟨_, _, _, _, _, _, cs', hk'⟩ := s0.cells
    exact ⟨s0.set1 _, ((FrB.of_below hB0 HB.out).setCell hk (by decide) hBg (by simp) _).setCell hk' (by decide) hBg (by simp) _⟩
  clear h1 hk mf H0 HB
  go_wp2
  go_ret
  exact ⟨rfl, HS.out⟩
set_option maxHeartbeats 2000000 in
set_option maxRecDepth 100000 in
theorem grow3_o1 {B g : Nat} {c2 c3 : Value} {l : List UInt8} (sv : Value) (c : Int) (hc : 0 ≤ c ∧ c ≤ 1099511627776) (b r : Int) (w : World) (h : SbE w B g (.int .i64 b) (.int .i64 r) c2 c3 l) (hb : 0 ≤ b ∧ b ≤ 1099511627776) (hr : 0 ≤ r ∧ r ≤ 1099511627776) (hB : B ≤ w.heap.size) (e0 : Value) (gL : ∀ W, Below w.heap.size w W → W.cell? ⟨12, 0, none⟩ = some e0) (hov : 1099511627776 < b + c) :
    Calls Tryz.prog 75 #[.pointer (some ⟨g, 0, none⟩), .iface 151 (.agg #[sv, .int .i64 c])] w fun e w' => e = .returned e0 ∧ Below w.heap.size w w' := by
  obtain ⟨q0, q1, _, _, _, hBg, _, _⟩ := h.cells
  obtain ⟨hb1, hb2⟩ := hb
  obtain ⟨hr1, hr2⟩ := hr
  obtain ⟨hc1, hc2⟩ := hc
  have hd1 : decide (1099511627776 < b + c) = true := decide_eq_true hov
  have GL : Hid _ := gL
  clear h hB gL
  have a0 := as_r_r
  go_enter Tryz.func75, Tryz.ntmps75
  go_wp2
  go_quiet (fail)
  go_wp2_with fail
  refine (rlen_any _ _ _).mono ?_; rintro r0 w0 ⟨rfl, hb0'⟩
  have hB0 : Below w.heap.size w w0 := (below_drewN (Below.refl _ _) _).trans hb0'
  clear hb0'
  go_wp2_with fail
  refine (rlen_any _ _ _).mono ?_; rintro r1 w1 ⟨rfl, hb1'⟩
  have hB1 : Below w.heap.size w w1 := hB0.trans (hb1'.mono hB0.size)
  clear hb1' hB0
  have gL := GL.out _ hB1
  go_wp2
  go_ret
  exact ⟨rfl, hB1⟩
set_option maxHeartbeats 2000000 in
set_option maxRecDepth 100000 in
theorem grow3_o2 {B g : Nat} {c2 c3 : Value} {l : List UInt8} (sv : Value) (c : Int) (hc : 0 ≤ c ∧ c ≤ 1099511627776) (b r : Int) (w : World) (h : SbE w B g (.int .i64 b) (.int .i64 r) c2 c3 l) (hb : 0 ≤ b ∧ b ≤ 1099511627776) (hr : 0 ≤ r ∧ r ≤ 1099511627776) (hB : B ≤ w.heap.size) (e0 : Value) (gL : ∀ W, Below w.heap.size w W → W.cell? ⟨12, 0, none⟩ = some e0) (hob : b + c ≤ 1099511627776) (hov : 1099511627776 < r + c) :
    Calls Tryz.prog 75 #[.pointer (some ⟨g, 0, none⟩), .iface 151 (.agg #[sv, .int .i64 c])] w fun e w' => e = .returned e0 ∧ Below w.heap.size w w' := by
  obtain ⟨q0, q1, _, _, _, hBg, _, _⟩ := h.cells
  obtain ⟨hb1, hb2⟩ := hb
  obtain ⟨hr1, hr2⟩ := hr
  obtain ⟨hc1, hc2⟩ := hc
  have hd1 : decide (1099511627776 < b + c) = false := decide_eq_false (by omega)
  have hd2 : decide (1099511627776 < r + c) = true := decide_eq_true hov
  have GL : Hid _ := gL
  clear h hB gL
  have a0 := as_r_r
  go_enter Tryz.func75, Tryz.ntmps75
  go_wp2
  go_quiet (fail)
  go_wp2_with fail
  refine (rlen_any _ _ _).mono ?_; rintro r0 w0 ⟨rfl, hb0'⟩
  have hB0 : Below w.heap.size w w0 := (below_drewN (Below.refl _ _) _).trans hb0'
  clear hb0'
  go_wp2_with fail
  refine (rlen_any _ _ _).mono ?_; rintro r1 w1 ⟨rfl, hb1'⟩
  have hB1 : Below w.heap.size w w1 := hB0.trans (hb1'.mono hB0.size)
  clear hb1' hB0
  have gL := GL.out _ hB1
  go_wp2
  go_ret
  exact ⟨rfl, hB1⟩
set_option maxHeartbeats 2000000 in
set_option maxRecDepth 100000 in
theorem grow3_ok {B g : Nat} {c2 c3 : Value} {l : List UInt8} (sv : Value) (c : Int) (hc : 0 ≤ c ∧ c ≤ 1099511627776) (b r : Int) (w : World) (h : SbE w B g (.int .i64 b) (.int .i64 r) c2 c3 l) (hb : 0 ≤ b ∧ b ≤ 1099511627776) (hr : 0 ≤ r ∧ r ≤ 1099511627776) (hB : B ≤ w.heap.size) (hob : b + c ≤ 1099511627776) (hor : r + c ≤ 1099511627776) :
    Calls Tryz.prog 75 #[.pointer (some ⟨g, 0, none⟩), .iface 151 (.agg #[sv, .int .i64 c])] w fun e w' => e = .returned .nilIface ∧ SbE w' B g (.int .i64 (b + c)) (.int .i64 (r + c)) c2 c3 l ∧ FrB B (fun k => k ≠ g) w w' := by
  obtain ⟨q0, q1, _, _, _, hBg, _, _⟩ := h.cells
  obtain ⟨hb1, hb2⟩ := hb
  obtain ⟨hr1, hr2⟩ := hr
  obtain ⟨hc1, hc2⟩ := hc
  have hd1 : decide (1099511627776 < b + c) = false := decide_eq_false (by omega)
  have hd2 : decide (1099511627776 < r + c) = false := decide_eq_false (by omega)
  have HB : Hid (B ≤ w.heap.size) := hB
  have H0 : Hid (SbE w B g (.int .i64 b) (.int .i64 r) c2 c3 l) := h
  clear h hB
  have a0 := as_r_r
  go_enter Tryz.func75, Tryz.ntmps75
  go_wp2
  go_quiet (fail)
  go_wp2_with fail
  refine (rlen_any _ _ _).mono ?_; rintro r0 w0 ⟨rfl, hb0'⟩
  have hB0 : Below w.heap.size w w0 := (below_drewN (Below.refl _ _) _).trans hb0'
  clear hb0'
  go_wp2_with fail
  refine (rlen_any _ _ _).mono ?_; rintro r1 w1 ⟨rfl, hb1'⟩
  have hB1 : Below w.heap.size w w1 := hB0.trans (hb1'.mono hB0.size)
  clear hb1' hB0
  have h1 := H0.out.below hB1
  obtain ⟨m0, m1, _, _, mf, _, cs, hk⟩ := h1.cells
  have mf0 := mf 0
  have mf1 := mf 1
  have HS : Hid (SbE ((w1.setCell ⟨g, 0, none⟩ (.int .i64 (b + c))).setCell ⟨g, 1, none⟩ (.int .i64 (r + c))) B g (.int .i64 (b + c)) (.int .i64 (r + c)) c2 c3 l ∧ FrB B (fun k => k ≠ g) w ((w1.setCell ⟨g, 0, none⟩ (.int .i64 (b + c))).setCell ⟨g, 1, none⟩ (.int .i64 (r + c)))) := by
    have s0 := h1.set0 (.int .i64 (b + c))
    obtain ⟨_, _, _, _, _, _, cs', hk'⟩ := s0.cells
    exact ⟨s0.set1 _, ((FrB.of_below hB1 HB.out).setCell hk (by decide) hBg (by simp) _).setCell hk' (by decide) hBg (by simp) _⟩
  clear h1 hk mf H0 HB
  go_wp2
  go_ret
  exact ⟨rfl, HS.out⟩
set_option maxHeartbeats 2000000 in
set_option maxRecDepth 100000 in
theorem grow4_o1 {B g : Nat} {c2 c3 : Value} {l : List UInt8} (c : Int) (hc : 0 ≤ c ∧ c ≤ 1099511627776) (b r : Int) (w : World) (h : SbE w B g (.int .i64 b) (.int .i64 r) c2 c3 l) (hb : 0 ≤ b ∧ b ≤ 1099511627776) (hr : 0 ≤ r ∧ r ≤ 1099511627776) (hB : B ≤ w.heap.size) (e0 : Value) (gL : ∀ W, Below w.heap.size w W → W.cell? ⟨12, 0, none⟩ = some e0) (hov : 1099511627776 < b + c) :
    Calls Tryz.prog 75 #[.pointer (some ⟨g, 0, none⟩), .iface 97 (.agg #[.int .i64 c])] w fun e w' => e = .returned e0 ∧ Below w.heap.size w w' := by
  obtain ⟨q0, q1, _, _, _, hBg, _, _⟩ := h.cells
  obtain ⟨hb1, hb2⟩ := hb
  obtain ⟨hr1, hr2⟩ := hr
  obtain ⟨hc1, hc2⟩ := hc
  have hd1 : decide (1099511627776 < b + c) = true := decide_eq_true hov
  have GL : Hid _ := gL
  clear h hB gL
  have a0 := as_d_r
  have a1 := as_d_d
  go_enter Tryz.func75, Tryz.ntmps75
  go_wp2
  go_quiet (fail)
  go_wp2_with fail
  refine (dlen_any _ _).mono ?_; rintro r0 w0 ⟨rfl, hb0'⟩
  have hB0 : Below w.heap.size w w0 := (below_drewN (Below.refl _ _) _).trans hb0'
  clear hb0'
  have gL := GL.out _ hB0
  go_wp2
  go_ret
  exact ⟨rfl, hB0⟩
set_option maxHeartbeats 2000000 in
set_option maxRecDepth 100000 in
theorem grow4_ok {B g : Nat} {c2 c3 : Value} {l : List UInt8} (c : Int) (hc : 0 ≤ c ∧ c ≤ 1099511627776) (b r : Int) (w : World) (h : SbE w B g (.int .i64 b) (.int .i64 r) c2 c3 l) (hb : 0 ≤ b ∧ b ≤ 1099511627776) (hr : 0 ≤ r ∧ r ≤ 1099511627776) (hB : B ≤ w.heap.size) (hob : b + c ≤ 1099511627776) (hor : r ≤ 1099511627776) :
    Calls Tryz.prog 75 #[.pointer (some ⟨g, 0, none⟩), .iface 97 (.agg #[.int .i64 c])] w fun e w' => e = .returned .nilIface ∧ SbE w' B g (.int .i64 (b + c)) (.int .i64 (r)) c2 c3 l ∧ FrB B (fun k => k ≠ g) w w' := by
  obtain ⟨q0, q1, _, _, _, hBg, _, _⟩ := h.cells
  obtain ⟨hb1, hb2⟩ := hb
  obtain ⟨hr1, hr2⟩ := hr
  obtain ⟨hc1, hc2⟩ := hc
  have hd1 : decide (1099511627776 < b + c) = false := decide_eq_false (by omega)
  have hd2 : decide (1099511627776 < r) = false := decide_eq_false (by omega)
  have HB : Hid (B ≤ w.heap.size) := hB
  have H0 : Hid (SbE w B g (.int .i64 b) (.int .i64 r) c2 c3 l) := h
  clear h hB
  have a0 := as_d_r
  have a1 := as_d_d
  go_enter Tryz.func75, Tryz.ntmps75
  go_wp2
  go_quiet (fail)
  go_wp2_with fail
  refine (dlen_any _ _).mono ?_; rintro r0 w0 ⟨rfl, hb0'⟩
  have hB0 : Below w.heap.size w w0 := (below_drewN (Below.refl _ _) _).trans hb0'
  clear hb0'
  have h1 := H0.out.below hB0
  obtain ⟨m0, m1, _, _, mf, _, cs, hk⟩ := h1.cells
  have mf0 := mf 0
  have mf1 := mf 1
  have HS : Hid (SbE ((w0.setCell ⟨g, 0, none⟩ (.int .i64 (b + c))).setCell ⟨g, 1, none⟩ (.int .i64 (r))) B g (.int .i64 (b + c)) (.int .i64 (r)) c2 c3 l ∧ FrB B (fun k => k ≠ g) w ((w0.setCell ⟨g, 0, none⟩ (.int .i64 (b + c))).setCell ⟨g, 1, none⟩ (.int .i64 (r)))) := by
    have s0 := h1.set0 (.int .i64 (b + c))
    obtain ⟨_, _, _, _, _, _, cs', hk'⟩ := s0.cells
    exact ⟨s0.set1 _, ((FrB.of_below hB0 HB.out).setCell hk (by decide) hBg (by simp) _).setCell hk' (by decide) hBg (by simp) _⟩
  clear h1 hk mf H0 HB
  go_wp2
  go_ret
  exact ⟨rfl, HS.out⟩
end Go.Proofs.YtplnojapnaaakaaGreatDoor

/- build: add, settle, gather: what the builder has behind them. -/
namespace Go.Proofs.YtplnojapnaaakaaGreatDoor
open Go Go.RowKit Go.Lib
set_option linter.unusedVariables false
/-- What is known of the builder's pieces. -/
structure OkP (P : List Op5) : Prop where
  wel : ∀ x ∈ P, Wel x
  n : ∀ x ∈ P, x.A.length ≤ 2097152
  len : P.length ≤ 4194304
  txt : txtS P ≤ 8388608
  cnt : ∀ x ∈ P, x.c ≤ 2199023255552
theorem last_slice {w : World} {B : Nat} {s : Value} {A : List A2} (h : OwnA w B s A) : ∃ p n c, s = .slice p n c := by obtain ⟨p, c, e⟩ := own_slice h; exact ⟨_, _, _, e⟩
theorem add_any {B g : Nat} {D : Nat → Prop} {b r : Int} {P : List Op5} {d : Int} (o : Op5) (sv : Value) (w : World) (h : BldE w B D g b r P d) (hsv : OwnA w B sv o.A) (hD : ∀ k, D k → k < w.heap.size) (hP : OkP P) (ho : Wel o) (hA : o.A.length ≤ 2097152) (ht : o.t.size ≤ 8388608) (hc : o.c ≤ 2199023255552) (h4 : ∀ F x, P = F ++ [x] → x.k ≠ 4 ∨ o.k ≠ 4) :
    Calls Tryz.prog 106 #[.pointer (some ⟨g, 0, none⟩), pieceQ o sv] w fun e w' => e = .returned (.tuple #[]) ∧ BldE w' B D g b r (pushL P o) d ∧ FrB B D w w' := by
  obtain ⟨pv, PL, l, h⟩ := h
  have hB : B ≤ w.heap.size := by have := h.sb.lt; have := h.sb.cells.2.2.2.2.2.1; omega
  rcases List.eq_nil_or_concat P with rfl | ⟨F, x, rfl⟩
  · rw [push_nil]
    have hz : PL = [] := List.eq_nil_of_length_eq_zero (by have := forall2_len h.pie; simpa using this)
    subst hz
    obtain ⟨p, c, e⟩ := own_slice h.row
    have e' : pv = .slice p 0 c := e
    exact add_app o sv w h hsv hD (by simp) (join_nil _ w (e' ▸ h.sb))
  · rw [List.concat_eq_append] at h hP h4 ⊢
    have hpie := h.pie
    obtain ⟨FL, s, ePL, hFL, hs⟩ := pie_last hpie
    have hlF : F.length ≤ 4194304 := by have := hP.len; rw [List.length_append] at this; simp at this; omega
    have hlFL : FL.length ≤ 4194304 := by rw [forall2_len hFL]; exact hlF
    have hrow : w.ownsRow B 56 1 pv (FL ++ [pieceQ x s]).length (FL ++ [pieceQ x s]) := by rw [← ePL]; exact h.row
    have hx := hP.wel x (List.mem_append_right _ (List.mem_singleton.2 rfl))
    have hxA := hP.n x (List.mem_append_right _ (List.mem_singleton.2 rfl))
    have hxc := hP.cnt x (List.mem_append_right _ (List.mem_singleton.2 rfl))
    have hxt : x.t.size ≤ 8388608 := Nat.le_trans (txtS_mem (List.mem_append_right _ (List.mem_singleton.2 rfl))) hP.txt
    have hxk := h4 F x rfl
    have kx := hx.kinds
    have ko := ho.kinds
    have rs := own_rowA hs
    have rv := own_rowA hsv
    have sl := last_slice hs
    have htxt : l = [] ∨ (x.k = 1 ∧ l = x.t.data.toList) := by
      rcases h.txt with e | ⟨F', x', e1, e2, e3⟩
      · exact Or.inl e
      · obtain ⟨_, e4⟩ := List.append_inj' e1 rfl
        obtain rfl := (List.cons.inj e4).1
        exact Or.inr ⟨e2, e3⟩
    by_cases hj : joinsB x o
    · rw [push_yes hj]
      obtain ⟨j1, j2, j3⟩ := hj
      rcases j2 with j2 | j2
      · have ix := (hx.resolve_right (by rintro (⟨a, _⟩ | ⟨a, _⟩) <;> omega)).1
        have io := (ho.resolve_right (by rintro (⟨a, _⟩ | ⟨a, _⟩) <;> omega)).1
        have hl1 : l = [] ∨ l = x.t.data.toList := htxt.imp id (·.2)
        refine add_set o s sv FL w h ePL hFL hs hD hlF (x' := jnO x o) rfl ((join_yes11 x o s sv FL w h.sb hrow hlFL (by omega) j2 j3 rs rv hxA hA hl1 ix io (by omega) hB).mono ?_)
        rintro e w' ⟨e1, e2, e3⟩
        exact ⟨e1, ⟨_, e2, Or.inr ⟨by show x.k = 1; omega, rfl⟩⟩, e3⟩
      · have cx := hx.count (by omega)
        have co := ho.count (by omega)
        have hl0 : l = [] := htxt.resolve_right (by rintro ⟨a, _⟩; omega)
        refine add_set o s sv FL w h ePL hFL hs hD hlF (x' := jnO x o) rfl ((join_yes33 x o s sv FL w h.sb hrow hlFL (by omega) j2 j3 rs rv hxA hA ⟨by omega, by omega, by omega⟩).mono ?_)
        rintro e w' ⟨e1, e2⟩
        exact ⟨e1, ⟨l, h.sb.below e2, Or.inl hl0⟩, FrB.of_below e2 hB⟩
    · rw [push_no hj hxk ko]
      refine add_app o sv w h hsv hD hP.len ?_
      rcases kx with kx | kx | kx | kx <;> rcases ko with ko | ko | ko | ko
      · exact join_no11 x o s sv FL w h.sb hrow hlFL kx ko (fun e => hj ⟨by omega, by omega, e⟩) rs rv hxA hA
      · exact join_no12 x o s sv FL w h.sb hrow hlFL sl kx ko
      · exact join_no13 x o s sv FL w h.sb hrow hlFL sl kx ko
      · exact join_no14 x o s sv FL w h.sb hrow hlFL sl kx ko
      · exact join_no21 x o s sv FL w h.sb hrow hlFL sl kx ko
      · exact join_no22 x o s sv FL w h.sb hrow hlFL sl kx ko
      · exact join_no23 x o s sv FL w h.sb hrow hlFL sl kx ko
      · exact join_no24 x o s sv FL w h.sb hrow hlFL sl kx ko
      · exact join_no31 x o s sv FL w h.sb hrow hlFL sl kx ko
      · exact join_no32 x o s sv FL w h.sb hrow hlFL sl kx ko
      · exact join_no33 x o s sv FL w h.sb hrow hlFL kx ko (fun e => hj ⟨by omega, by omega, e⟩) rs rv hxA hA
      · exact join_no34 x o s sv FL w h.sb hrow hlFL sl kx ko
      · exact join_no41 x o s sv FL w h.sb hrow hlFL sl kx ko
      · exact join_no42 x o s sv FL w h.sb hrow hlFL sl kx ko
      · exact join_no43 x o s sv FL w h.sb hrow hlFL sl kx ko
      · exact absurd hxk (by omega)

theorem BldE.set3 {w : World} {B g : Nat} {D : Nat → Prop} {b r : Int} {P : List Op5} {d : Int} (h : BldE w B D g b r P d) (d' : Int) : BldE (w.setCell ⟨g, 3, none⟩ (.int .i64 d')) B D g b r P d' ∧ FrB B D w (w.setCell ⟨g, 3, none⟩ (.int .i64 d')) := by
  obtain ⟨pv, PL, l, h⟩ := h
  obtain ⟨_, _, _, _, _, hBg, cs, hk⟩ := h.sb.cells
  have hf := (FrB.refl B D w).setCell hk (by decide) hBg h.nd (j := 3) (.int .i64 d')
  exact ⟨⟨pv, PL, l, h.sb.set3 _, h.nd, ownsRow_setCell_other h.row (own_ne h.row hk) _, h.rnd, h.pie.keep hf.keepA, h.txt⟩, hf⟩
theorem BldE.below {w w' : World} {B g : Nat} {D : Nat → Prop} {b r : Int} {P : List Op5} {d : Int} (h : BldE w B D g b r P d) (hb : Below w.heap.size w w') : BldE w' B D g b r P d := by
  obtain ⟨pv, PL, l, h⟩ := h
  exact ⟨pv, PL, l, h.below hb⟩
theorem BldE.drew {w : World} {B g : Nat} {D : Nat → Prop} {b r : Int} {P : List Op5} {d : Int} (h : BldE w B D g b r P d) : BldE w.drew B D g b r P d := by
  obtain ⟨pv, PL, l, h⟩ := h
  obtain ⟨a1, a2, a3⟩ := h.sb
  exact ⟨pv, PL, l, ⟨a1, a2, a3.lo, a3.at_, a3.buf, a3.adr⟩, h.nd, h.row, h.rnd, h.pie, h.txt⟩
theorem BldE.anti {w : World} {B g : Nat} {D D' : Nat → Prop} {b r : Int} {P : List Op5} {d : Int} (h : BldE w B D g b r P d) (hd : ∀ k, D' k → D k) : BldE w B D' g b r P d := by
  obtain ⟨pv, PL, l, h⟩ := h
  exact ⟨pv, PL, l, h.sb, fun e => h.nd (hd _ e), h.row, fun k hk e => h.rnd k hk (hd _ e), h.pie, h.txt⟩
/-- A block that is none of the builder's may be kept beside. -/
theorem BldE.plus {w : World} {B g : Nat} {D : Nat → Prop} {b r : Int} {P : List Op5} {d : Int} (h : BldE w B D g b r P d) {k : Nat} {cs : Array Value} {T : TypeId} {fz : Nat × Nat} (hk : w.heap[k]? = some (.cells cs T fz)) (h1 : T ≠ 94) (h2 : T ≠ 56) : BldE w B (fun i => D i ∨ i = k) g b r P d := by
  obtain ⟨pv, PL, l, h⟩ := h
  refine ⟨pv, PL, l, h.sb, ?_, h.row, fun j hj => ?_, h.pie, h.txt⟩
  · rintro (e | e)
    · exact h.nd e
    · obtain ⟨_, _, _, _, _, _, cs', hg⟩ := h.sb.cells
      rw [← e, hg] at hk
      simp only [Option.some.injEq, Obj.cells.injEq] at hk
      exact h1 hk.2.1.symm
  · rintro (e | e)
    · exact h.rnd j hj e
    · obtain ⟨_, cur, h3⟩ := owns_block h.row j hj
      rw [← e, h3] at hk
      simp only [Option.some.injEq, Obj.cells.injEq] at hk
      exact h2 hk.2.1.symm
theorem BldE.lo {w : World} {B g : Nat} {D : Nat → Prop} {b r : Int} {P : List Op5} {d : Int} (h : BldE w B D g b r P d) : B ≤ g ∧ g < w.heap.size := by
  obtain ⟨pv, PL, l, h⟩ := h
  exact ⟨h.sb.cells.2.2.2.2.2.1, h.sb.lt⟩
theorem BldE.c3 {w : World} {B g : Nat} {D : Nat → Prop} {b r : Int} {P : List Op5} {d : Int} (h : BldE w B D g b r P d) : w.cell? ⟨g, 3, none⟩ = some (.int .i64 d) ∧ w.frozen? ⟨g, 3, none⟩ = false := by
  obtain ⟨pv, PL, l, h⟩ := h
  exact ⟨h.sb.cells.2.2.2.1, h.sb.cells.2.2.2.2.1 3⟩

set_option maxHeartbeats 2000000 in
set_option maxRecDepth 100000 in
theorem settle_any {B g : Nat} {D : Nat → Prop} {b r : Int} {P : List Op5} {d : Int} (w : World) (h : BldE w B D g b r P d) (hD : ∀ k, D k → k < w.heap.size) (hP : OkP P) (h4 : ∀ F x, P = F ++ [x] → x.k ≠ 4) (hd : 0 ≤ d ∧ d ≤ 2199023255552) :
    Calls Tryz.prog 105 #[.pointer (some ⟨g, 0, none⟩)] w fun e w' => e = .returned (.tuple #[]) ∧ BldE w' B D g b r (setB (P, d)) 0 ∧ FrB B D w w' := by
  obtain ⟨q3, qf⟩ := h.c3
  obtain ⟨hd1, hd2⟩ := hd
  by_cases h0 : 0 < d
  · have hset : setB (P, d) = pushL P (delO d) := by
      rw [push_del h4]
      unfold setB
      exact if_pos h0
    rw [hset]
    have ca := add_any (delO d) (.slice none 0 0) w h (World.ownsRow_nil _ _ _ _) hD hP (delO_wel (by omega)) (by show (0 : Nat) ≤ _; omega) (by show (0 : Nat) ≤ _; omega) hd2 (fun F x e => Or.inl (h4 F x e))
    rw [pieceQ_4 (show (delO d).k = 4 from rfl)] at ca
    have ca' : Calls Tryz.prog 106 #[.pointer (some ⟨g, 0, none⟩), .iface 97 (.agg #[.int .i64 d])] w fun e w' => e = .returned (.tuple #[]) ∧ BldE w' B D g b r (pushL P (delO d)) d ∧ FrB B D w w' := ca
    clear h hD hP h4 hset ca
    go_enter Tryz.func105, Tryz.ntmps105
    go_wp2_with fail
    refine ca'.mono ?_; rintro e w1 ⟨rfl, h1, f1⟩
    obtain ⟨m3, mf3⟩ := h1.c3
    have HS : Hid _ := h1.set3 0
    have F1 : Hid (FrB B D w w1) := f1
    clear ca' h1 f1
    go_wp2
    go_end0
    exact ⟨rfl, HS.out.1, F1.out.trans HS.out.2⟩
  · obtain rfl : d = 0 := by omega
    have hset : setB (P, 0) = P := by
      unfold setB
      exact if_neg h0
    rw [hset]
    have H1 : Hid _ := h
    clear h hD hP h4 hset
    go_enter Tryz.func105, Tryz.ntmps105
    go_wp2
    go_end0
    exact ⟨rfl, H1.out, FrB.refl _ _ _⟩

set_option maxHeartbeats 2000000 in
set_option maxRecDepth 100000 in
theorem gather_any {B g : Nat} {D : Nat → Prop} {b r : Int} {s : List Op5 × Int} (o : Op5) (sv : Value) (w : World) (h : BldE w B D g b r s.1 s.2) (hsv : OwnA w B sv o.A) (hD : ∀ k, D k → k < w.heap.size) (hP : OkP s.1) (hPs : OkP (setB s)) (ho : Wel o) (hA : o.A.length ≤ 2097152) (ht : o.t.size ≤ 8388608) (hc : o.c ≤ 1099511627776) (hst : BSt s) (hd : s.2 ≤ 1099511627776) :
    Calls Tryz.prog 76 #[.pointer (some ⟨g, 0, none⟩), pieceQ o sv] w fun e w' => e = .returned (.tuple #[]) ∧ BldE w' B D g b r (stB s o).1 (stB s o).2 ∧ FrB B D w w' := by
  obtain ⟨P, d⟩ := s
  have hB : B ≤ w.heap.size := by have := h.lo; omega
  have hd0 : 0 ≤ d := hst.gone
  have h4 := fun F x e => hst.chn.last F x e
  simp only at hd h hP h4
  have hslice := last_slice hsv
  rcases ho.kinds with hk | hk | hk | hk
  · have cA := add_any o sv w h hsv hD hP ho hA ht (by omega) (fun F x e => Or.inl (h4 F x e))
    have e1 : stB (P, d) o = (pushL P o, d) := by unfold stB; rw [if_neg (by omega), if_neg (by omega)]
    rw [e1]
    simp only
    obtain ⟨n, hn⟩ : ∃ n : Int, ((scs o.t.data.toList).length : Int) = n := ⟨_, rfl⟩
    rw [pieceQ_1 hk, hn] at cA ⊢
    have a1 := as_i_d
    have a2 := as_i_r
    clear h hsv hD hP hPs ho hst h4 hn e1
    go_enter Tryz.func76, Tryz.ntmps76
    go_wp2_with fail
    refine cA.mono ?_; rintro e w1 ⟨rfl, h1, f1⟩
    have H1 : Hid (BldE w1 B D g b r (pushL P o) d ∧ FrB B D w w1) := ⟨h1, f1⟩
    clear h1 f1 cA
    go_wp2
    go_end0
    exact ⟨rfl, H1.out⟩
  · have cA := add_any o sv w h hsv hD hP ho hA ht (by omega) (fun F x e => Or.inl (h4 F x e))
    have e1 : stB (P, d) o = (pushL P o, d) := by unfold stB; rw [if_neg (by omega), if_neg (by omega)]
    rw [e1]
    simp only
    obtain ⟨V, hV⟩ : ∃ V, valP o.v = V := ⟨_, rfl⟩
    rw [pieceQ_2 hk, hV] at cA ⊢
    have a1 := as_e_d
    have a2 := as_e_r
    clear h hsv hD hP hPs ho hst h4 hV e1
    go_enter Tryz.func76, Tryz.ntmps76
    go_wp2_with fail
    refine cA.mono ?_; rintro e w1 ⟨rfl, h1, f1⟩
    have H1 : Hid (BldE w1 B D g b r (pushL P o) d ∧ FrB B D w w1) := ⟨h1, f1⟩
    clear h1 f1 cA
    go_wp2
    go_end0
    exact ⟨rfl, H1.out⟩
  · have e1 : stB (P, d) o = (pushL (setB (P, d)) o, 0) := by unfold stB; rw [if_neg (by omega), if_pos hk]
    rw [e1]
    simp only
    obtain ⟨p1, l1, q1, rfl⟩ := hslice
    have b0 := (Below.refl w.heap.size w).alloc (Nat.le_refl _) (.cells #[.slice p1 l1 q1, .int .i64 o.c] 151)
    have hD0 : ∀ k, D k → k < (w.alloc (.cells #[.slice p1 l1 q1, .int .i64 o.c] 151)).heap.size := fun k hk => Nat.lt_of_lt_of_le (hD k hk) b0.size
    have cS := settle_any (D := fun i => D i ∨ i = w.heap.size) (w.alloc (.cells #[.slice p1 l1 q1, .int .i64 o.c] 151)) ((h.below b0).plus (heap_alloc_new w _) (by decide) (by decide)) (fun k hk => hk.elim (hD0 k) (fun e => by rw [e, World.size_alloc]; omega)) hP h4 ⟨hd0, by omega⟩
    have hne : g < w.heap.size := h.lo.2
    have CA : Hid (∀ W, BldE W B D g b r (setB (P, d)) 0 → OwnA W B (.slice p1 l1 q1) o.A → (∀ k, D k → k < W.heap.size) → Calls Tryz.prog 106 #[.pointer (some ⟨g, 0, none⟩), .iface 151 (.agg #[.slice p1 l1 q1, .int .i64 o.c])] W fun e w' => e = .returned (.tuple #[]) ∧ BldE w' B D g b r (pushL (setB (P, d)) o) 0 ∧ FrB B D W w') := fun W h1 h2 h3 => by
      have := add_any o (.slice p1 l1 q1) W h1 h2 h3 hPs ho hA ht (by omega) (fun _ _ _ => Or.inr (by omega))
      rw [pieceQ_3 hk] at this
      exact this
    rw [pieceQ_3 hk]
    have HS : Hid (OwnA (w.alloc (.cells #[.slice p1 l1 q1, .int .i64 o.c] 151)) B (.slice p1 l1 q1) o.A ∧ (∀ k, D k → k < (w.alloc (.cells #[.slice p1 l1 q1, .int .i64 o.c] 151)).heap.size) ∧ FrB B D w (w.alloc (.cells #[.slice p1 l1 q1, .int .i64 o.c] 151)) ∧ (w.alloc (.cells #[.slice p1 l1 q1, .int .i64 o.c] 151)).heap[w.heap.size]? = some (.cells #[.slice p1 l1 q1, .int .i64 o.c] 151 (0, 0)) ∧ g < w.heap.size) := ⟨owns_below hsv b0, hD0, FrB.of_below b0 hB, heap_alloc_new w _, hne⟩
    have a1 := as_r_d
    have a2 := as_r_r
    obtain ⟨c, hc'⟩ : ∃ c, o.c = c := ⟨_, rfl⟩
    rw [hc'] at cS CA HS ⊢
    clear h hsv hD hP hPs ho hst h4 e1 b0 hD0 hne hc hc'
    go_enter Tryz.func76, Tryz.ntmps76
    go_wp2_with fail
    refine cS.mono ?_; rintro e w1 ⟨rfl, h1, f1⟩
    obtain ⟨x1, x2, x3, x4, x5⟩ := HS.out
    have m1 : w1.heap[w.heap.size]? = some (.cells #[.slice p1 l1 q1, .int .i64 c] 151 (0, 0)) := f1.kept w.heap.size _ x4 (Or.inr rfl) (fun c fz e => by simp only [Obj.cells.injEq] at e; exact absurd e.2.1 (by decide))
    have d0 : w1.cell? ⟨w.heap.size, 0, none⟩ = some (.slice p1 l1 q1) := by rw [cell_of_heap m1]; rfl
    have d1 : w1.cell? ⟨w.heap.size, 1, none⟩ = some (.int .i64 c) := by rw [cell_of_heap m1]; rfl
    have cA := CA.out w1 (h1.anti fun k hk => Or.inl hk) (keepA_own x1 f1.keepA) (fun k hk => Nat.lt_of_lt_of_le (x2 k hk) f1.below.size)
    have F1 : Hid (FrB B D w w1) := x3.trans (f1.mono fun k hk => Or.inl hk)
    clear cS h1 f1 m1 x1 x2 x3 x4 x5 HS CA
    go_wp2_with fail
    refine cA.mono ?_; rintro e w2 ⟨rfl, h2, f2⟩
    have H2 : Hid (BldE w2 B D g b r (pushL (setB (P, d)) o) 0 ∧ FrB B D w w2) := ⟨h2, F1.out.trans f2⟩
    clear cA h2 f2 F1
    go_wp2
    go_end0
    exact ⟨rfl, H2.out⟩
  · have e1 : stB (P, d) o = (P, d + o.c) := by unfold stB; rw [if_pos hk]
    rw [e1]
    simp only
    have hcc := ho.count (Or.inr hk)
    rw [pieceQ_4 hk]
    obtain ⟨c, hc'⟩ : ∃ c, o.c = c := ⟨_, rfl⟩
    rw [hc'] at hc hcc ⊢
    have b0 := (Below.refl w.heap.size w).alloc (Nat.le_refl _) (.cells #[.int .i64 c] 97)
    have h0 := h.below b0
    have F0 : FrB B D w (w.alloc (.cells #[.int .i64 c] 97)) := FrB.of_below b0 hB
    have HQ : Hid (BldE ((w.alloc (.cells #[.int .i64 c] 97)).setCell ⟨g, 3, none⟩ (.int .i64 (d + c))) B D g b r P (d + c) ∧ FrB B D w ((w.alloc (.cells #[.int .i64 c] 97)).setCell ⟨g, 3, none⟩ (.int .i64 (d + c)))) := ⟨(h0.set3 _).1, F0.trans (h0.set3 _).2⟩
    obtain ⟨q3, qf⟩ := h0.c3
    have hne : g ≠ w.heap.size := by have := h.lo.2; omega
    have hne' : w.heap.size ≠ g := fun e => hne e.symm
    have a1 := as_d_d
    clear h hsv hD hP hPs ho hst h4 e1 b0 h0 F0 hc' hslice
    go_enter Tryz.func76, Tryz.ntmps76
    go_wp2
    go_region
    all_goals (go_wp2; go_end0; exact ⟨rfl, HQ.out.1.drew, HQ.out.2.drew⟩)
end Go.Proofs.YtplnojapnaaakaaGreatDoor
