/- The builder as plain data: its pieces, how many cells go behind them; what it ends in is the canonical list. build: last, grow, joinText, join: the builder's own parts. build: join: the last piece and another as one. build: join, where both are texts or both are retains. build: add and settle: a piece put behind the others. build: grow: the lengths of what is gathered, with a piece. build: add, settle, gather: what the builder has behind them. build: Push: one operation gathered, or refused. build: Push: one operation gathered, or refused. build: Delta and New: what a builder answers. build: Delta: what a builder answers. -/
import Derived.Test.YthfpmhnnjjikcabGreatDoorPMga
import Derived.OneCell
import Derived.Maps.AppendAt
import Derived.Test.YthfpmhnnjjikcabGreatDoorPQd
import Derived.Deep.RegionHeld3
import Derived.Deep.DeepCutAuto
import Derived.Lib.SliceRun

/- The builder as plain data: its pieces, how many cells go behind them; what it ends in is the canonical list. -/
namespace Go.Proofs.YthfpmhnnjjikcabGreatDoor
open Go Go.RowKit Go.Lib
set_option linter.unusedVariables false
/-- The pieces, what is deleted behind them put there. -/
def setB (s : List Op5 × Int) : List Op5 := if 0 < s.2 then s.1 ++ [delO s.2] else s.1
/-- One operation gathered. -/
def stB (s : List Op5 × Int) (o : Op5) : List Op5 × Int :=
  if o.k = 4 then (s.1, s.2 + o.c) else if o.k = 3 then (pushL (setB s) o, 0) else (pushL s.1 o, s.2)
/-- What the builder answers. -/
def finB (s : List Op5 × Int) : List Op5 := if 0 < s.2 then s.1 ++ [delO s.2] else trimL s.1
def bldR (E : List Op5) : List Op5 × Int := E.foldl stB ([], 0)

theorem push_del {P : List Op5} {n : Int} (h : ∀ F x, P = F ++ [x] → x.k ≠ 4) : pushL P (delO n) = P ++ [delO n] := by
  rcases List.eq_nil_or_concat P with rfl | ⟨F, x, rfl⟩
  · rfl
  · rw [List.concat_eq_append] at h ⊢
    exact push_apart (Or.inl (h F x rfl))
/-- What is so of the builder between two operations. -/
structure BSt (s : List Op5 × Int) : Prop where
  chn : Chn s.1 (fun k => k ≠ 4)
  gone : 0 ≤ s.2
theorem BSt.nil : BSt ([], 0) := ⟨⟨fun o ho => (by cases ho), rfl, fun F x e => (by simp at e)⟩, Int.le_refl 0⟩
theorem setB_chn {s : List Op5 × Int} (h : BSt s) : Chn (setB s) (fun _ => True) ∧ units (setB s) = units s.1 ++ List.replicate s.2.toNat .del := by
  unfold setB
  split
  · rename_i h0
    obtain ⟨q1, q2⟩ := push_chn h.chn (delO_wel h0) (fun k h4 e => absurd e h4)
    rw [push_del fun F x e => h.chn.last F x e] at q1 q2
    refine ⟨⟨q1.wel, q1.chain, fun _ _ _ => trivial⟩, ?_⟩
    rw [q2, unitsO_4 (show (delO s.2).k = 4 from rfl)]; rfl
  · rename_i h0
    refine ⟨⟨h.chn.wel, h.chn.chain, fun _ _ _ => trivial⟩, ?_⟩
    rw [show s.2.toNat = 0 by omega]; simp
theorem stB_st {s : List Op5 × Int} {o : Op5} (h : BSt s) (ho : Wel o) : BSt (stB s o) := by
  unfold stB
  rcases ho.kinds with hk | hk | hk | hk
  · rw [if_neg (by omega), if_neg (by omega)]
    obtain ⟨p1, _⟩ := push_chn h.chn ho (fun k h4 e => absurd e h4)
    exact ⟨⟨p1.wel, p1.chain, fun F x e => by have := p1.last F x e; omega⟩, h.gone⟩
  · rw [if_neg (by omega), if_neg (by omega)]
    obtain ⟨p1, _⟩ := push_chn h.chn ho (fun k h4 e => absurd e h4)
    exact ⟨⟨p1.wel, p1.chain, fun F x e => by have := p1.last F x e; omega⟩, h.gone⟩
  · rw [if_neg (by omega), if_pos hk]
    obtain ⟨p1, _⟩ := push_chn (setB_chn h).1 ho (fun k _ _ => Or.inl hk)
    exact ⟨⟨p1.wel, p1.chain, fun F x e => by have := p1.last F x e; omega⟩, Int.le_refl 0⟩
  · rw [if_pos hk]
    have := ho.count (Or.inr hk)
    exact ⟨h.chn, by have := h.gone; show 0 ≤ s.2 + o.c; omega⟩
theorem bldR_st {E : List Op5} : ∀ {s : List Op5 × Int}, BSt s → (∀ o ∈ E, Wel o) → BSt (E.foldl stB s) := by
  induction E with
  | nil => intro s h _; exact h
  | cons o r ih => intro s h hE; exact ih (stB_st h (hE o (List.mem_cons_self ..))) (fun x hx => hE x (List.mem_cons_of_mem _ hx))

/-- The reference's state and the builder's. -/
def mirB (c : List Op5 × List Op5 × Int) : List Op5 × Int := (c.2.1.foldl pushL c.1, c.2.2)
theorem mir_flush {c : List Op5 × List Op5 × Int} (h : BSt (mirB c)) : flushL c.1 c.2.1 c.2.2 = setB (mirB c) := by
  unfold flushL setB mirB at *
  split
  · exact push_del fun F x e => h.chn.last F x e
  · rfl
theorem mir_step {c : List Op5 × List Op5 × Int} {o : Op5} (h : BSt (mirB c)) (ho : Wel o) : mirB (stepC c o) = stB (mirB c) o := by
  unfold stepC stB
  rcases ho.kinds with hk | hk | hk | hk
  · rw [if_pos (Or.inl hk), if_neg (by omega), if_neg (by omega)]
    simp [mirB, List.foldl_append]
  · rw [if_pos (Or.inr hk), if_neg (by omega), if_neg (by omega)]
    simp [mirB, List.foldl_append]
  · rw [if_neg (by omega), if_neg (by omega), if_neg (by omega), if_pos hk, mir_flush h]; rfl
  · rw [if_neg (by omega), if_pos hk, if_pos hk]; rfl
theorem mir_run : ∀ (E : List Op5) (c : List Op5 × List Op5 × Int), BSt (mirB c) → (∀ o ∈ E, Wel o) → mirB (E.foldl stepC c) = E.foldl stB (mirB c)
  | [], c, _, _ => rfl
  | o :: r, c, h, hE => by
    have ho := hE o (List.mem_cons_self ..)
    have e := mir_step h ho
    show mirB (r.foldl stepC (stepC c o)) = r.foldl stB (stB (mirB c) o)
    rw [mir_run r (stepC c o) (by rw [e]; exact stB_st h ho) (fun x hx => hE x (List.mem_cons_of_mem _ hx)), e]
theorem trim_del (P : List Op5) (n : Int) : trimL (P ++ [delO n]) = P ++ [delO n] := by
  unfold trimL
  rw [List.getLast?_concat]
  simp only [show plainR (delO n) = false from rfl]
  rfl
/-- What the builder answers is the canonical list. -/
theorem finB_canon {E : List Op5} (h : ∀ o ∈ E, Wel o) : finB (bldR E) = canonL E := by
  have e : mirB (runC E) = bldR E := mir_run E ([], [], 0) BSt.nil h
  have hs : BSt (bldR E) := bldR_st BSt.nil h
  unfold canonL
  rw [mir_flush (by rw [e]; exact hs), e]
  unfold finB setB
  split
  · rw [trim_del]
  · rfl
theorem bldR_snoc (E : List Op5) (o : Op5) : bldR (E ++ [o]) = stB (bldR E) o := by unfold bldR; rw [List.foldl_append]; rfl
/-- How long the texts are. -/
def txtS (E : List Op5) : Nat := (E.map (·.t.size)).sum
theorem txtS_append (E F : List Op5) : txtS (E ++ F) = txtS E + txtS F := by unfold txtS; rw [List.map_append, List.sum_append]
theorem txtS_one (o : Op5) : txtS [o] = o.t.size := by simp [txtS]
theorem txtS_mem {E : List Op5} {o : Op5} (h : o ∈ E) : o.t.size ≤ txtS E := by
  induction E with
  | nil => cases h
  | cons x r ih =>
    have e : txtS (x :: r) = x.t.size + txtS r := by simp [txtS]
    rcases List.mem_cons.1 h with rfl | h
    · omega
    · have := ih h; omega
/-- An operation but for its text isn't too great. -/
structure FitA (o : Op5) : Prop where
  v : o.v.2.2.size ≤ 1048576
  A : ∀ q ∈ o.A, q.1.size ≤ 1048576 ∧ q.2.2.2.size ≤ 1048576
  n : o.A.length ≤ 1048576
theorem Fit.fitA {o : Op5} (h : Fit o) : FitA o := ⟨h.v, h.A, h.n⟩
theorem FitA.fit {o : Op5} (h : FitA o) (ht : o.t.size ≤ 8388608) : Fit o := ⟨ht, h.v, h.A, h.n⟩
theorem fitA_all {E : List Op5} (h : ∀ o ∈ E, FitA o) (ht : txtS E ≤ 8388608) : FitL E := fun o ho => (h o ho).fit (Nat.le_trans (txtS_mem ho) ht)
theorem delO_fitA (n : Int) : FitA (delO n) := ⟨by show (0 : Nat) ≤ _; omega, fun q hq => (by cases hq), by show (0 : Nat) ≤ _; omega⟩
theorem push_size (P : List Op5) (o : Op5) : txtS (pushL P o) = txtS P + o.t.size ∧ (pushL P o).length ≤ P.length + 1 := by
  rcases List.eq_nil_or_concat P with rfl | ⟨F, x, rfl⟩
  · rw [push_nil]; simp [txtS]
  · rw [List.concat_eq_append]
    by_cases hj : x.k ≠ o.k ∨ o.k = 2 ∨ x.A ≠ o.A
    · rw [push_apart hj, txtS_append, txtS_one]
      exact ⟨rfl, by rw [List.length_append]; exact Nat.le_refl _⟩
    · rw [push_join hj, txtS_append, txtS_append, txtS_one, txtS_one]
      have hs : (jnO x o).t.size = x.t.size + o.t.size := ByteArray.size_append
      rw [hs]
      exact ⟨by omega, by simp⟩
theorem push_fitA {P : List Op5} {o : Op5} (h : ∀ x ∈ P, FitA x) (ho : FitA o) : ∀ x ∈ pushL P o, FitA x := by
  rcases List.eq_nil_or_concat P with rfl | ⟨F, x, rfl⟩
  · rw [push_nil]; intro y hy; rw [List.mem_singleton.1 hy]; exact ho
  · rw [List.concat_eq_append] at h ⊢
    by_cases hj : x.k ≠ o.k ∨ o.k = 2 ∨ x.A ≠ o.A
    · rw [push_apart hj]
      intro y hy
      rcases List.mem_append.1 hy with hy | hy
      · exact h y hy
      · rw [List.mem_singleton.1 hy]; exact ho
    · rw [push_join hj]
      intro y hy
      rcases List.mem_append.1 hy with hy | hy
      · exact h y (List.mem_append_left _ hy)
      · rw [List.mem_singleton.1 hy]
        have := h x (List.mem_append_right _ (List.mem_singleton.2 rfl))
        exact ⟨this.v, this.A, this.n⟩
/-- The builder's sizes: n operations, texts of N bytes. -/
structure BSz (s : List Op5 × Int) (n N : Nat) : Prop where
  fit : ∀ x ∈ s.1, FitA x
  txt : txtS s.1 ≤ N
  len : s.1.length + (if 0 < s.2 then 1 else 0) ≤ n
theorem BSz.nil : BSz ([], 0) 0 0 := ⟨fun x hx => (by cases hx), Nat.le_refl 0, by simp⟩
theorem BSz.set {s : List Op5 × Int} {n N : Nat} (h : BSz s n N) : (∀ x ∈ setB s, FitA x) ∧ txtS (setB s) ≤ N ∧ (setB s).length ≤ n := by
  have h3 := h.len
  unfold setB
  split
  · rename_i h0
    rw [if_pos h0] at h3
    refine ⟨fun x hx => ?_, ?_, by rw [List.length_append]; exact h3⟩
    · rcases List.mem_append.1 hx with hx | hx
      · exact h.fit x hx
      · rw [List.mem_singleton.1 hx]; exact delO_fitA _
    · rw [txtS_append, txtS_one]
      exact h.txt
  · exact ⟨h.fit, h.txt, by omega⟩
theorem BSz.step {s : List Op5 × Int} {n N : Nat} {o : Op5} (h : BSz s n N) (ho : FitA o) : BSz (stB s o) (n + 1) (N + o.t.size) := by
  have h3 := h.len
  unfold stB
  by_cases h4 : o.k = 4
  · rw [if_pos h4]
    refine ⟨h.fit, by have := h.txt; show txtS s.1 ≤ _; omega, ?_⟩
    show s.1.length + (if 0 < s.2 + o.c then 1 else 0) ≤ n + 1
    split <;> omega
  · rw [if_neg h4]
    by_cases h5 : o.k = 3
    · rw [if_pos h5]
      obtain ⟨a, b, c⟩ := h.set
      obtain ⟨d, e⟩ := push_size (setB s) o
      refine ⟨push_fitA a ho, by show txtS (pushL (setB s) o) ≤ _; omega, ?_⟩
      show (pushL (setB s) o).length + (if (0 : Int) < 0 then 1 else 0) ≤ n + 1
      simp only [show ¬ ((0 : Int) < 0) by omega, if_false]; omega
    · rw [if_neg h5]
      obtain ⟨d, e⟩ := push_size s.1 o
      refine ⟨push_fitA h.fit ho, by have := h.txt; show txtS (pushL s.1 o) ≤ _; omega, ?_⟩
      show (pushL s.1 o).length + (if 0 < s.2 then 1 else 0) ≤ n + 1
      omega
theorem bldR_sz : ∀ (E : List Op5) {s : List Op5 × Int} {n N : Nat}, BSz s n N → (∀ o ∈ E, FitA o) → BSz (E.foldl stB s) (n + E.length) (N + txtS E)
  | [], s, n, N, h, _ => h
  | o :: r, s, n, N, h, hE => by
    have := bldR_sz r (h.step (hE o (List.mem_cons_self ..))) (fun x hx => hE x (List.mem_cons_of_mem _ hx))
    have e : txtS (o :: r) = o.t.size + txtS r := by simp [txtS]
    rw [e, List.length_cons, show N + (o.t.size + txtS r) = N + o.t.size + txtS r by omega, show n + (r.length + 1) = n + 1 + r.length by omega]
    exact this
end Go.Proofs.YthfpmhnnjjikcabGreatDoor

/- build: last, grow, joinText, join: the builder's own parts. -/
namespace Go.Proofs.YthfpmhnnjjikcabGreatDoor
open Go Go.RowKit Go.Lib
set_option linter.unusedVariables false
theorem last_nil (p : Option Addr) (c : Nat) (w : World) : Calls Tryz.prog 79 #[.slice p 0 c] w fun e w' => e = .returned .nilIface ∧ w' = w := by
  go_enter Tryz.func79, Tryz.ntmps79
  go_wp2
  go_ret
  exact ⟨rfl, rfl⟩
set_option maxHeartbeats 1000000 in
theorem last_one (v : Value) (FL : List Value) (x : Value) (B : Nat) (w : World) (hv : w.ownsRow B 102 1 v (FL ++ [x]).length (FL ++ [x])) (hl : FL.length ≤ 4194304) :
    Calls Tryz.prog 79 #[v] w fun e w' => e = .returned x ∧ w' = w := by
  obtain ⟨g, c, y, rfl, _, hy, hc⟩ := own_cell hv FL.length (by simp)
  have hy' : (FL ++ [x])[FL.length]? = some x := by simp
  obtain rfl : x = y := Option.some.inj (hy'.symm.trans hy)
  obtain ⟨n, hn⟩ : ∃ n, FL.length = n := ⟨_, rfl⟩
  have hn' : (FL ++ [x]).length = n + 1 := by simp [hn]
  rw [hn] at hc hl
  rw [hn']
  clear hv hy hy' hn hn'
  have hz : (((n + 1 : Nat) : Int) == 0) = false := by rw [beq_eq_false_iff_ne]; omega
  have hd : ((n + 1 : Nat) : Int) - 1 = (n : Int) := by omega
  go_enter Tryz.func79, Tryz.ntmps79
  go_wp2
  go_ret
  exact ⟨rfl, rfl⟩

/-- A text as bytes. -/
theorem cat_arr (a b : ByteArray) : (⟨(a.data.toList ++ b.data.toList).toArray⟩ : ByteArray) = a ++ b := by
  apply ByteArray.ext
  simp
set_option maxHeartbeats 2000000 in
set_option maxRecDepth 100000 in
theorem joinText_any (B g : Nat) (c0 c1 c2 c3 : Value) (l : List UInt8) (a b : ByteArray) (w : World) (h : SbE w B g c0 c1 c2 c3 l) (hl : l = [] ∨ l = a.data.toList) (ha : 0 < a.size) (hab : a.size + b.size ≤ 16777216) (hBw : B ≤ w.heap.size) :
    Calls Tryz.prog 167 #[.pointer (some ⟨g, 0, none⟩), .string a, .string b] w fun e w' => e = .returned (.string (a ++ b)) ∧ SbE w' B g c0 c1 c2 c3 (a ++ b).data.toList ∧ FrB B (fun k => k ≠ g) w w' := by
  have cL := sbLen_any B g c0 c1 c2 c3 l w h
  have hcat : (a ++ b).data.toList = a.data.toList ++ b.data.toList := cat_list a b
  have hne : a.data.toList ++ b.data.toList ≠ [] := by
    intro e
    have e2 := congrArg List.length e
    rw [List.length_append, size_toList, size_toList, List.length_nil] at e2
    omega
  have cS : Hid (∀ W, SbE W B g c0 c1 c2 c3 (a.data.toList ++ b.data.toList) → Calls Tryz.prog 175 #[.pointer (some ⟨g, 4, none⟩)] W fun e w' => e = .returned (.string (a ++ b)) ∧ SbE w' B g c0 c1 c2 c3 (a.data.toList ++ b.data.toList) ∧ FrB B (fun k => k ≠ g) W w') := fun W hW => by
    have := sbString_any B g c0 c1 c2 c3 _ W hW hne
    rw [cat_arr] at this
    exact this
  have cW : Hid (∀ W, SbE W B g c0 c1 c2 c3 a.data.toList → B ≤ W.heap.size → Calls Tryz.prog 174 #[.pointer (some ⟨g, 4, none⟩), .string b] W fun e w' => e = .returned (.tuple #[.int .i64 b.size, .nilIface]) ∧ SbE w' B g c0 c1 c2 c3 (a.data.toList ++ b.data.toList) ∧ FrB B (fun k => k ≠ g) W w') := fun W hW hB =>
    sbWrite_any B g c0 c1 c2 c3 a.data.toList b W hW (by rw [size_toList]; omega) hB
  have HC : Hid ((a ++ b).data.toList = a.data.toList ++ b.data.toList) := hcat
  by_cases hz : l = []
  · subst hz
    have c1' : Hid (Calls Tryz.prog 174 #[.pointer (some ⟨g, 4, none⟩), .string a] w fun e w' => e = .returned (.tuple #[.int .i64 a.size, .nilIface]) ∧ SbE w' B g c0 c1 c2 c3 a.data.toList ∧ FrB B (fun k => k ≠ g) w w') := by
      have := sbWrite_any B g c0 c1 c2 c3 [] a w h (by simp only [List.length_nil]; omega) hBw
      rw [List.nil_append] at this
      exact this
    have HB : Hid (B ≤ w.heap.size) := hBw
    clear h hl hne hcat hBw
    go_enter Tryz.func167, Tryz.ntmps167
    go_wp2_with fail
    refine cL.mono ?_; rintro e w1 ⟨rfl, rfl⟩
    go_wp2_with fail
    refine c1'.out.mono ?_; rintro e w2 ⟨rfl, h2, f2⟩
    have c3' := cW.out w2 h2 (Nat.le_trans HB.out f2.below.size)
    have F2 : Hid (FrB B (fun k => k ≠ g) _ w2) := f2
    clear cL c1' h2 f2
    go_wp2_with fail
    refine c3'.mono ?_; rintro e w3 ⟨rfl, h3, f3⟩
    have c4' := cS.out w3 h3
    have F3 : Hid (FrB B (fun k => k ≠ g) _ w3) := F2.out.trans f3
    clear c3' h3 f3 F2
    go_wp2_with fail
    refine c4'.mono ?_; rintro e w4 ⟨rfl, h4, f4⟩
    have F4 : Hid (SbE w4 B g c0 c1 c2 c3 (a ++ b).data.toList ∧ FrB B (fun k => k ≠ g) _ w4) := ⟨by rw [HC.out]; exact h4, F3.out.trans f4⟩
    clear c4' h4 f4 F3
    go_wp2
    go_ret
    exact ⟨rfl, F4.out⟩
  · have hl2 : l = a.data.toList := hl.resolve_left hz
    subst hl2
    have hnz : ((a.data.toList.length : Int) == 0) = false := by rw [beq_eq_false_iff_ne, size_toList]; omega
    have c3' := cW.out w h hBw
    clear h hl hne hcat hz cW
    go_enter Tryz.func167, Tryz.ntmps167
    go_wp2_with fail
    refine cL.mono ?_; rintro e w1 ⟨rfl, rfl⟩
    go_wp2_with fail
    refine c3'.mono ?_; rintro e w3 ⟨rfl, h3, f3⟩
    have c4' := cS.out w3 h3
    have F3 : Hid (FrB B (fun k => k ≠ g) _ w3) := f3
    clear c3' h3 f3 cL
    go_wp2_with fail
    refine c4'.mono ?_; rintro e w4 ⟨rfl, h4, f4⟩
    have F4 : Hid (SbE w4 B g c0 c1 c2 c3 (a ++ b).data.toList ∧ FrB B (fun k => k ≠ g) _ w4) := ⟨by rw [HC.out]; exact h4, F3.out.trans f4⟩
    clear c4' h4 f4 F3
    go_wp2
    go_ret
    exact ⟨rfl, F4.out⟩
end Go.Proofs.YthfpmhnnjjikcabGreatDoor

/- build: join: the last piece and another as one. -/
namespace Go.Proofs.YthfpmhnnjjikcabGreatDoor
open Go Go.RowKit Go.Lib
set_option linter.unusedVariables false
/-- May two operations be joined by the builder? -/
def joinsB (x o : Op5) : Prop := x.k = o.k ∧ (o.k = 1 ∨ o.k = 3) ∧ x.A = o.A
instance (x o : Op5) : Decidable (joinsB x o) := by unfold joinsB; infer_instance
theorem push_no {F : List Op5} {x o : Op5} (h : ¬ joinsB x o) (h4 : x.k ≠ 4 ∨ o.k ≠ 4) (hk : o.k = 1 ∨ o.k = 2 ∨ o.k = 3 ∨ o.k = 4) : pushL (F ++ [x]) o = F ++ [x] ++ [o] := by
  refine push_apart ?_
  by_cases h1 : x.k ≠ o.k
  · exact Or.inl h1
  · by_cases h2 : o.k = 2
    · exact Or.inr (Or.inl h2)
    · refine Or.inr (Or.inr fun e => h ⟨by omega, by omega, e⟩)
theorem push_yes {F : List Op5} {x o : Op5} (h : joinsB x o) : pushL (F ++ [x]) o = F ++ [jnO x o] := by
  obtain ⟨h1, h2, h3⟩ := h
  refine push_join ?_
  rintro (e | e | e)
  · exact e h1
  · omega
  · exact e h3
theorem forall2_unappend {α β : Type} {R : α → β → Prop} : ∀ {a c : List α} {b d : List β}, a.length = b.length → All2 R (a ++ c) (b ++ d) → All2 R a b ∧ All2 R c d
  | [], c, [], d, _, h => ⟨.nil, h⟩
  | x :: a, c, y :: b, d, e, h => by
    cases h with
    | cons h1 h2 =>
      obtain ⟨p, q⟩ := forall2_unappend (by simpa using e) h2
      exact ⟨.cons h1 p, q⟩
/-- A row of pieces' last piece. -/
theorem pie_last {w : World} {B : Nat} {PL : List Value} {F : List Op5} {x : Op5} (h : PieD w B PL (F ++ [x])) : ∃ FL s, PL = FL ++ [pieceQ x s] ∧ PieD w B FL F ∧ OwnA w B s x.A := by
  have hl := forall2_len h
  rcases List.eq_nil_or_concat PL with rfl | ⟨FL, y, rfl⟩
  · simp at hl
  · rw [List.concat_eq_append] at h hl ⊢
    have hl' : FL.length = F.length := by simpa using hl
    obtain ⟨h1, h2⟩ := forall2_unappend hl' h
    cases h2 with
    | cons a _ =>
      obtain ⟨s, rfl, hs⟩ := a
      exact ⟨FL, s, rfl, h1, hs⟩

theorem SbE.below {w w' : World} {B g : Nat} {c0 c1 c2 c3 : Value} {l : List UInt8} (h : SbE w B g c0 c1 c2 c3 l) (b : Below w.heap.size w w') : SbE w' B g c0 c1 c2 c3 l := by
  obtain ⟨av, jv, h⟩ := h
  exact ⟨av, jv, h.lo, (b.block g h.lt).trans h.at_, rowF_same h.buf fun k hk => b.block k (h.buf.lt k hk).2, h.adr⟩
theorem SbE.set_other {w : World} {B g : Nat} {c0 c1 c2 c3 : Value} {l : List UInt8} (h : SbE w B g c0 c1 c2 c3 l) {k j : Nat} {cs : Array Value} {T : TypeId} {fz : Nat × Nat} (hk : w.heap[k]? = some (.cells cs T fz)) (h1 : T ≠ 134) (h2 : T ≠ 5) (u : Value) : SbE (w.setCell ⟨k, j, none⟩ u) B g c0 c1 c2 c3 l := by
  obtain ⟨av, jv, h⟩ := h
  refine ⟨av, jv, h.lo, (Below.heap_setCell _ _ _ _ fun e => ?_).trans h.at_, rowF_same h.buf fun i hi => Below.heap_setCell _ _ _ _ fun e => ?_, h.adr⟩
  · obtain rfl : g = k := e
    rw [h.at_] at hk
    simp only [Option.some.injEq, Obj.cells.injEq] at hk
    exact h1 hk.2.1.symm
  · obtain rfl : i = k := e
    obtain ⟨c, fz', hc⟩ := ownsRowF_kind h.buf i hi
    rcases h.buf.2 with ⟨rfl, _⟩ | ⟨g', cap, cur, fz'', rfl, _, hgg, _⟩
    · cases hi
    · simp only [Value.ownBlock, Option.some.injEq] at hi
      obtain rfl : g' = i := hi
      rw [hgg] at hk
      simp only [Option.some.injEq, Obj.cells.injEq] at hk
      exact h2 hk.2.1.symm

set_option maxHeartbeats 4000000 in
set_option maxRecDepth 100000 in
theorem join_nil {B g : Nat} {c0 c1 c3 : Value} {p : Option Addr} {c : Nat} {l : List UInt8} (y : Value) (w : World) (h : SbE w B g c0 c1 (.slice p 0 c) c3 l) :
    Calls Tryz.prog 154 #[.pointer (some ⟨g, 0, none⟩), y] w fun e w' => e = .returned (.tuple #[.nilIface, .bool false]) ∧ Below w.heap.size w w' := by
  obtain ⟨av, jv, h⟩ := h
  have c2 : w.cell? ⟨g, 2, none⟩ = some (.slice p 0 c) := by rw [cell_of_heap h.at_]; rfl
  have cl := last_nil p c w
  have a1 : (Instr.typeAssert .nilIface 102 184 true).run Tryz.prog w = .ok (.tuple #[.agg #[.slice none 0 0, .string ⟨#[]⟩, .int .i64 0], .bool false]) w := by kernel_rfl
  have a2 : (Instr.typeAssert .nilIface 102 115 true).run Tryz.prog w = .ok (.tuple #[.agg #[.slice none 0 0, .int .i64 0], .bool false]) w := by kernel_rfl
  clear h
  go_enter Tryz.func154, Tryz.ntmps154
  go_wp2_with fail
  refine cl.mono ?_; rintro e w1 ⟨rfl, rfl⟩
  clear cl
  go_wp2
  go_ret2
  exact ⟨rfl, Below.refl _ _⟩
set_option maxHeartbeats 4000000 in
set_option maxRecDepth 100000 in
theorem join_no12 {B g : Nat} {c0 c1 pv c3 : Value} {l : List UInt8} (x o : Op5) (s sv : Value) (FL : List Value) (w : World) (h : SbE w B g c0 c1 pv c3 l) (hrow : w.ownsRow B 102 1 pv (FL ++ [pieceQ x s]).length (FL ++ [pieceQ x s])) (hlen : FL.length ≤ 4194304) (hs : ∃ p n c, s = .slice p n c) (hx : x.k = 1) (ho : o.k = 2) :
    Calls Tryz.prog 154 #[.pointer (some ⟨g, 0, none⟩), pieceQ o sv] w fun e w' => e = .returned (.tuple #[.nilIface, .bool false]) ∧ Below w.heap.size w w' := by
  obtain ⟨p1, l1, q1, rfl⟩ := hs
  have cl := last_one pv FL (pieceQ x (.slice p1 l1 q1)) B w hrow hlen
  obtain ⟨p, cap, hpv⟩ := own_slice hrow
  obtain ⟨av, jv, hs0⟩ := h
  have c2 : w.cell? ⟨g, 2, none⟩ = some pv := by rw [cell_of_heap hs0.at_]; rfl
  obtain ⟨nx, hnx⟩ : ∃ z : Int, ((scs x.t.data.toList).length : Int) = z := ⟨_, rfl⟩
  obtain ⟨tx, htx⟩ : ∃ z, x.t = z := ⟨_, rfl⟩
  obtain ⟨Vo, hVo⟩ : ∃ V, valP o.v = V := ⟨_, rfl⟩
  obtain ⟨tO, htO⟩ : ∃ z, o.t = z := ⟨_, rfl⟩
  rw [pieceQ_1 hx, hnx, htx] at cl
  rw [pieceQ_2 ho, hVo, htO]
  clear hs0 hrow hx ho hpv hnx htx hVo htO
  have a0 := as_i_i
  have a1 := as_e_i
  go_enter Tryz.func154, Tryz.ntmps154
  go_wp2_with fail
  refine cl.mono ?_; rintro e w1 ⟨rfl, rfl⟩
  clear cl
  go_wp2
  go_ret2
  exact ⟨rfl, by go_grown⟩
set_option maxHeartbeats 4000000 in
set_option maxRecDepth 100000 in
theorem join_no13 {B g : Nat} {c0 c1 pv c3 : Value} {l : List UInt8} (x o : Op5) (s sv : Value) (FL : List Value) (w : World) (h : SbE w B g c0 c1 pv c3 l) (hrow : w.ownsRow B 102 1 pv (FL ++ [pieceQ x s]).length (FL ++ [pieceQ x s])) (hlen : FL.length ≤ 4194304) (hs : ∃ p n c, s = .slice p n c) (hx : x.k = 1) (ho : o.k = 3) :
    Calls Tryz.prog 154 #[.pointer (some ⟨g, 0, none⟩), pieceQ o sv] w fun e w' => e = .returned (.tuple #[.nilIface, .bool false]) ∧ Below w.heap.size w w' := by
  obtain ⟨p1, l1, q1, rfl⟩ := hs
  have cl := last_one pv FL (pieceQ x (.slice p1 l1 q1)) B w hrow hlen
  obtain ⟨p, cap, hpv⟩ := own_slice hrow
  obtain ⟨av, jv, hs0⟩ := h
  have c2 : w.cell? ⟨g, 2, none⟩ = some pv := by rw [cell_of_heap hs0.at_]; rfl
  obtain ⟨nx, hnx⟩ : ∃ z : Int, ((scs x.t.data.toList).length : Int) = z := ⟨_, rfl⟩
  obtain ⟨tx, htx⟩ : ∃ z, x.t = z := ⟨_, rfl⟩
  obtain ⟨co, hco⟩ : ∃ z, o.c = z := ⟨_, rfl⟩
  rw [pieceQ_1 hx, hnx, htx] at cl
  rw [pieceQ_3 ho, hco]
  clear hs0 hrow hx ho hpv hnx htx hco
  have a0 := as_i_i
  have a1 := as_r_i
  go_enter Tryz.func154, Tryz.ntmps154
  go_wp2_with fail
  refine cl.mono ?_; rintro e w1 ⟨rfl, rfl⟩
  clear cl
  go_wp2
  go_ret2
  exact ⟨rfl, by go_grown⟩
set_option maxHeartbeats 4000000 in
set_option maxRecDepth 100000 in
theorem join_no14 {B g : Nat} {c0 c1 pv c3 : Value} {l : List UInt8} (x o : Op5) (s sv : Value) (FL : List Value) (w : World) (h : SbE w B g c0 c1 pv c3 l) (hrow : w.ownsRow B 102 1 pv (FL ++ [pieceQ x s]).length (FL ++ [pieceQ x s])) (hlen : FL.length ≤ 4194304) (hs : ∃ p n c, s = .slice p n c) (hx : x.k = 1) (ho : o.k = 4) :
    Calls Tryz.prog 154 #[.pointer (some ⟨g, 0, none⟩), pieceQ o sv] w fun e w' => e = .returned (.tuple #[.nilIface, .bool false]) ∧ Below w.heap.size w w' := by
  obtain ⟨p1, l1, q1, rfl⟩ := hs
  have cl := last_one pv FL (pieceQ x (.slice p1 l1 q1)) B w hrow hlen
  obtain ⟨p, cap, hpv⟩ := own_slice hrow
  obtain ⟨av, jv, hs0⟩ := h
  have c2 : w.cell? ⟨g, 2, none⟩ = some pv := by rw [cell_of_heap hs0.at_]; rfl
  obtain ⟨nx, hnx⟩ : ∃ z : Int, ((scs x.t.data.toList).length : Int) = z := ⟨_, rfl⟩
  obtain ⟨tx, htx⟩ : ∃ z, x.t = z := ⟨_, rfl⟩
  obtain ⟨co, hco⟩ : ∃ z, o.c = z := ⟨_, rfl⟩
  rw [pieceQ_1 hx, hnx, htx] at cl
  rw [pieceQ_4 ho, hco]
  clear hs0 hrow hx ho hpv hnx htx hco
  have a0 := as_i_i
  have a1 := as_d_i
  go_enter Tryz.func154, Tryz.ntmps154
  go_wp2_with fail
  refine cl.mono ?_; rintro e w1 ⟨rfl, rfl⟩
  clear cl
  go_wp2
  go_ret2
  exact ⟨rfl, by go_grown⟩
set_option maxHeartbeats 4000000 in
set_option maxRecDepth 100000 in
theorem join_no21 {B g : Nat} {c0 c1 pv c3 : Value} {l : List UInt8} (x o : Op5) (s sv : Value) (FL : List Value) (w : World) (h : SbE w B g c0 c1 pv c3 l) (hrow : w.ownsRow B 102 1 pv (FL ++ [pieceQ x s]).length (FL ++ [pieceQ x s])) (hlen : FL.length ≤ 4194304) (hs : ∃ p n c, s = .slice p n c) (hx : x.k = 2) (ho : o.k = 1) :
    Calls Tryz.prog 154 #[.pointer (some ⟨g, 0, none⟩), pieceQ o sv] w fun e w' => e = .returned (.tuple #[.nilIface, .bool false]) ∧ Below w.heap.size w w' := by
  obtain ⟨p1, l1, q1, rfl⟩ := hs
  have cl := last_one pv FL (pieceQ x (.slice p1 l1 q1)) B w hrow hlen
  obtain ⟨p, cap, hpv⟩ := own_slice hrow
  obtain ⟨av, jv, hs0⟩ := h
  have c2 : w.cell? ⟨g, 2, none⟩ = some pv := by rw [cell_of_heap hs0.at_]; rfl
  obtain ⟨Vx, hVx⟩ : ∃ V, valP x.v = V := ⟨_, rfl⟩
  obtain ⟨tx, htx⟩ : ∃ z, x.t = z := ⟨_, rfl⟩
  obtain ⟨no, hno⟩ : ∃ z : Int, ((scs o.t.data.toList).length : Int) = z := ⟨_, rfl⟩
  obtain ⟨tO, htO⟩ : ∃ z, o.t = z := ⟨_, rfl⟩
  rw [pieceQ_2 hx, hVx, htx] at cl
  rw [pieceQ_1 ho, hno, htO]
  clear hs0 hrow hx ho hpv hVx htx hno htO
  have a0 := as_e_i
  have a1 := as_e_r
  go_enter Tryz.func154, Tryz.ntmps154
  go_wp2_with fail
  refine cl.mono ?_; rintro e w1 ⟨rfl, rfl⟩
  clear cl
  go_wp2
  go_ret2
  exact ⟨rfl, by go_grown⟩
set_option maxHeartbeats 4000000 in
set_option maxRecDepth 100000 in
theorem join_no22 {B g : Nat} {c0 c1 pv c3 : Value} {l : List UInt8} (x o : Op5) (s sv : Value) (FL : List Value) (w : World) (h : SbE w B g c0 c1 pv c3 l) (hrow : w.ownsRow B 102 1 pv (FL ++ [pieceQ x s]).length (FL ++ [pieceQ x s])) (hlen : FL.length ≤ 4194304) (hs : ∃ p n c, s = .slice p n c) (hx : x.k = 2) (ho : o.k = 2) :
    Calls Tryz.prog 154 #[.pointer (some ⟨g, 0, none⟩), pieceQ o sv] w fun e w' => e = .returned (.tuple #[.nilIface, .bool false]) ∧ Below w.heap.size w w' := by
  obtain ⟨p1, l1, q1, rfl⟩ := hs
  have cl := last_one pv FL (pieceQ x (.slice p1 l1 q1)) B w hrow hlen
  obtain ⟨p, cap, hpv⟩ := own_slice hrow
  obtain ⟨av, jv, hs0⟩ := h
  have c2 : w.cell? ⟨g, 2, none⟩ = some pv := by rw [cell_of_heap hs0.at_]; rfl
  obtain ⟨Vx, hVx⟩ : ∃ V, valP x.v = V := ⟨_, rfl⟩
  obtain ⟨tx, htx⟩ : ∃ z, x.t = z := ⟨_, rfl⟩
  obtain ⟨Vo, hVo⟩ : ∃ V, valP o.v = V := ⟨_, rfl⟩
  obtain ⟨tO, htO⟩ : ∃ z, o.t = z := ⟨_, rfl⟩
  rw [pieceQ_2 hx, hVx, htx] at cl
  rw [pieceQ_2 ho, hVo, htO]
  clear hs0 hrow hx ho hpv hVx htx hVo htO
  have a0 := as_e_i
  have a1 := as_e_r
  go_enter Tryz.func154, Tryz.ntmps154
  go_wp2_with fail
  refine cl.mono ?_; rintro e w1 ⟨rfl, rfl⟩
  clear cl
  go_wp2
  go_ret2
  exact ⟨rfl, by go_grown⟩
set_option maxHeartbeats 4000000 in
set_option maxRecDepth 100000 in
theorem join_no23 {B g : Nat} {c0 c1 pv c3 : Value} {l : List UInt8} (x o : Op5) (s sv : Value) (FL : List Value) (w : World) (h : SbE w B g c0 c1 pv c3 l) (hrow : w.ownsRow B 102 1 pv (FL ++ [pieceQ x s]).length (FL ++ [pieceQ x s])) (hlen : FL.length ≤ 4194304) (hs : ∃ p n c, s = .slice p n c) (hx : x.k = 2) (ho : o.k = 3) :
    Calls Tryz.prog 154 #[.pointer (some ⟨g, 0, none⟩), pieceQ o sv] w fun e w' => e = .returned (.tuple #[.nilIface, .bool false]) ∧ Below w.heap.size w w' := by
  obtain ⟨p1, l1, q1, rfl⟩ := hs
  have cl := last_one pv FL (pieceQ x (.slice p1 l1 q1)) B w hrow hlen
  obtain ⟨p, cap, hpv⟩ := own_slice hrow
  obtain ⟨av, jv, hs0⟩ := h
  have c2 : w.cell? ⟨g, 2, none⟩ = some pv := by rw [cell_of_heap hs0.at_]; rfl
  obtain ⟨Vx, hVx⟩ : ∃ V, valP x.v = V := ⟨_, rfl⟩
  obtain ⟨tx, htx⟩ : ∃ z, x.t = z := ⟨_, rfl⟩
  obtain ⟨co, hco⟩ : ∃ z, o.c = z := ⟨_, rfl⟩
  rw [pieceQ_2 hx, hVx, htx] at cl
  rw [pieceQ_3 ho, hco]
  clear hs0 hrow hx ho hpv hVx htx hco
  have a0 := as_e_i
  have a1 := as_e_r
  go_enter Tryz.func154, Tryz.ntmps154
  go_wp2_with fail
  refine cl.mono ?_; rintro e w1 ⟨rfl, rfl⟩
  clear cl
  go_wp2
  go_ret2
  exact ⟨rfl, by go_grown⟩
set_option maxHeartbeats 4000000 in
set_option maxRecDepth 100000 in
theorem join_no24 {B g : Nat} {c0 c1 pv c3 : Value} {l : List UInt8} (x o : Op5) (s sv : Value) (FL : List Value) (w : World) (h : SbE w B g c0 c1 pv c3 l) (hrow : w.ownsRow B 102 1 pv (FL ++ [pieceQ x s]).length (FL ++ [pieceQ x s])) (hlen : FL.length ≤ 4194304) (hs : ∃ p n c, s = .slice p n c) (hx : x.k = 2) (ho : o.k = 4) :
    Calls Tryz.prog 154 #[.pointer (some ⟨g, 0, none⟩), pieceQ o sv] w fun e w' => e = .returned (.tuple #[.nilIface, .bool false]) ∧ Below w.heap.size w w' := by
  obtain ⟨p1, l1, q1, rfl⟩ := hs
  have cl := last_one pv FL (pieceQ x (.slice p1 l1 q1)) B w hrow hlen
  obtain ⟨p, cap, hpv⟩ := own_slice hrow
  obtain ⟨av, jv, hs0⟩ := h
  have c2 : w.cell? ⟨g, 2, none⟩ = some pv := by rw [cell_of_heap hs0.at_]; rfl
  obtain ⟨Vx, hVx⟩ : ∃ V, valP x.v = V := ⟨_, rfl⟩
  obtain ⟨tx, htx⟩ : ∃ z, x.t = z := ⟨_, rfl⟩
  obtain ⟨co, hco⟩ : ∃ z, o.c = z := ⟨_, rfl⟩
  rw [pieceQ_2 hx, hVx, htx] at cl
  rw [pieceQ_4 ho, hco]
  clear hs0 hrow hx ho hpv hVx htx hco
  have a0 := as_e_i
  have a1 := as_e_r
  go_enter Tryz.func154, Tryz.ntmps154
  go_wp2_with fail
  refine cl.mono ?_; rintro e w1 ⟨rfl, rfl⟩
  clear cl
  go_wp2
  go_ret2
  exact ⟨rfl, by go_grown⟩
set_option maxHeartbeats 4000000 in
set_option maxRecDepth 100000 in
theorem join_no31 {B g : Nat} {c0 c1 pv c3 : Value} {l : List UInt8} (x o : Op5) (s sv : Value) (FL : List Value) (w : World) (h : SbE w B g c0 c1 pv c3 l) (hrow : w.ownsRow B 102 1 pv (FL ++ [pieceQ x s]).length (FL ++ [pieceQ x s])) (hlen : FL.length ≤ 4194304) (hs : ∃ p n c, s = .slice p n c) (hx : x.k = 3) (ho : o.k = 1) :
    Calls Tryz.prog 154 #[.pointer (some ⟨g, 0, none⟩), pieceQ o sv] w fun e w' => e = .returned (.tuple #[.nilIface, .bool false]) ∧ Below w.heap.size w w' := by
  obtain ⟨p1, l1, q1, rfl⟩ := hs
  have cl := last_one pv FL (pieceQ x (.slice p1 l1 q1)) B w hrow hlen
  obtain ⟨p, cap, hpv⟩ := own_slice hrow
  obtain ⟨av, jv, hs0⟩ := h
  have c2 : w.cell? ⟨g, 2, none⟩ = some pv := by rw [cell_of_heap hs0.at_]; rfl
  obtain ⟨cx, hcx⟩ : ∃ z, x.c = z := ⟨_, rfl⟩
  obtain ⟨no, hno⟩ : ∃ z : Int, ((scs o.t.data.toList).length : Int) = z := ⟨_, rfl⟩
  obtain ⟨tO, htO⟩ : ∃ z, o.t = z := ⟨_, rfl⟩
  rw [pieceQ_3 hx, hcx] at cl
  rw [pieceQ_1 ho, hno, htO]
  clear hs0 hrow hx ho hpv hcx hno htO
  have a0 := as_r_i
  have a1 := as_r_r
  have a2 := as_i_r
  go_enter Tryz.func154, Tryz.ntmps154
  go_wp2_with fail
  refine cl.mono ?_; rintro e w1 ⟨rfl, rfl⟩
  clear cl
  go_wp2
  go_ret2
  exact ⟨rfl, by go_grown⟩
set_option maxHeartbeats 4000000 in
set_option maxRecDepth 100000 in
theorem join_no32 {B g : Nat} {c0 c1 pv c3 : Value} {l : List UInt8} (x o : Op5) (s sv : Value) (FL : List Value) (w : World) (h : SbE w B g c0 c1 pv c3 l) (hrow : w.ownsRow B 102 1 pv (FL ++ [pieceQ x s]).length (FL ++ [pieceQ x s])) (hlen : FL.length ≤ 4194304) (hs : ∃ p n c, s = .slice p n c) (hx : x.k = 3) (ho : o.k = 2) :
    Calls Tryz.prog 154 #[.pointer (some ⟨g, 0, none⟩), pieceQ o sv] w fun e w' => e = .returned (.tuple #[.nilIface, .bool false]) ∧ Below w.heap.size w w' := by
  obtain ⟨p1, l1, q1, rfl⟩ := hs
  have cl := last_one pv FL (pieceQ x (.slice p1 l1 q1)) B w hrow hlen
  obtain ⟨p, cap, hpv⟩ := own_slice hrow
  obtain ⟨av, jv, hs0⟩ := h
  have c2 : w.cell? ⟨g, 2, none⟩ = some pv := by rw [cell_of_heap hs0.at_]; rfl
  obtain ⟨cx, hcx⟩ : ∃ z, x.c = z := ⟨_, rfl⟩
  obtain ⟨Vo, hVo⟩ : ∃ V, valP o.v = V := ⟨_, rfl⟩
  obtain ⟨tO, htO⟩ : ∃ z, o.t = z := ⟨_, rfl⟩
  rw [pieceQ_3 hx, hcx] at cl
  rw [pieceQ_2 ho, hVo, htO]
  clear hs0 hrow hx ho hpv hcx hVo htO
  have a0 := as_r_i
  have a1 := as_r_r
  have a2 := as_e_r
  go_enter Tryz.func154, Tryz.ntmps154
  go_wp2_with fail
  refine cl.mono ?_; rintro e w1 ⟨rfl, rfl⟩
  clear cl
  go_wp2
  go_ret2
  exact ⟨rfl, by go_grown⟩
set_option maxHeartbeats 4000000 in
set_option maxRecDepth 100000 in
theorem join_no34 {B g : Nat} {c0 c1 pv c3 : Value} {l : List UInt8} (x o : Op5) (s sv : Value) (FL : List Value) (w : World) (h : SbE w B g c0 c1 pv c3 l) (hrow : w.ownsRow B 102 1 pv (FL ++ [pieceQ x s]).length (FL ++ [pieceQ x s])) (hlen : FL.length ≤ 4194304) (hs : ∃ p n c, s = .slice p n c) (hx : x.k = 3) (ho : o.k = 4) :
    Calls Tryz.prog 154 #[.pointer (some ⟨g, 0, none⟩), pieceQ o sv] w fun e w' => e = .returned (.tuple #[.nilIface, .bool false]) ∧ Below w.heap.size w w' := by
  obtain ⟨p1, l1, q1, rfl⟩ := hs
  have cl := last_one pv FL (pieceQ x (.slice p1 l1 q1)) B w hrow hlen
  obtain ⟨p, cap, hpv⟩ := own_slice hrow
  obtain ⟨av, jv, hs0⟩ := h
  have c2 : w.cell? ⟨g, 2, none⟩ = some pv := by rw [cell_of_heap hs0.at_]; rfl
  obtain ⟨cx, hcx⟩ : ∃ z, x.c = z := ⟨_, rfl⟩
  obtain ⟨co, hco⟩ : ∃ z, o.c = z := ⟨_, rfl⟩
  rw [pieceQ_3 hx, hcx] at cl
  rw [pieceQ_4 ho, hco]
  clear hs0 hrow hx ho hpv hcx hco
  have a0 := as_r_i
  have a1 := as_r_r
  have a2 := as_d_r
  go_enter Tryz.func154, Tryz.ntmps154
  go_wp2_with fail
  refine cl.mono ?_; rintro e w1 ⟨rfl, rfl⟩
  clear cl
  go_wp2
  go_ret2
  exact ⟨rfl, by go_grown⟩
set_option maxHeartbeats 4000000 in
set_option maxRecDepth 100000 in
theorem join_no41 {B g : Nat} {c0 c1 pv c3 : Value} {l : List UInt8} (x o : Op5) (s sv : Value) (FL : List Value) (w : World) (h : SbE w B g c0 c1 pv c3 l) (hrow : w.ownsRow B 102 1 pv (FL ++ [pieceQ x s]).length (FL ++ [pieceQ x s])) (hlen : FL.length ≤ 4194304) (hs : ∃ p n c, s = .slice p n c) (hx : x.k = 4) (ho : o.k = 1) :
    Calls Tryz.prog 154 #[.pointer (some ⟨g, 0, none⟩), pieceQ o sv] w fun e w' => e = .returned (.tuple #[.nilIface, .bool false]) ∧ Below w.heap.size w w' := by
  obtain ⟨p1, l1, q1, rfl⟩ := hs
  have cl := last_one pv FL (pieceQ x (.slice p1 l1 q1)) B w hrow hlen
  obtain ⟨p, cap, hpv⟩ := own_slice hrow
  obtain ⟨av, jv, hs0⟩ := h
  have c2 : w.cell? ⟨g, 2, none⟩ = some pv := by rw [cell_of_heap hs0.at_]; rfl
  obtain ⟨cx, hcx⟩ : ∃ z, x.c = z := ⟨_, rfl⟩
  obtain ⟨no, hno⟩ : ∃ z : Int, ((scs o.t.data.toList).length : Int) = z := ⟨_, rfl⟩
  obtain ⟨tO, htO⟩ : ∃ z, o.t = z := ⟨_, rfl⟩
  rw [pieceQ_4 hx, hcx] at cl
  rw [pieceQ_1 ho, hno, htO]
  clear hs0 hrow hx ho hpv hcx hno htO
  have a0 := as_d_i
  have a1 := as_d_r
  go_enter Tryz.func154, Tryz.ntmps154
  go_wp2_with fail
  refine cl.mono ?_; rintro e w1 ⟨rfl, rfl⟩
  clear cl
  go_wp2
  go_ret2
  exact ⟨rfl, by go_grown⟩
set_option maxHeartbeats 4000000 in
set_option maxRecDepth 100000 in
theorem join_no42 {B g : Nat} {c0 c1 pv c3 : Value} {l : List UInt8} (x o : Op5) (s sv : Value) (FL : List Value) (w : World) (h : SbE w B g c0 c1 pv c3 l) (hrow : w.ownsRow B 102 1 pv (FL ++ [pieceQ x s]).length (FL ++ [pieceQ x s])) (hlen : FL.length ≤ 4194304) (hs : ∃ p n c, s = .slice p n c) (hx : x.k = 4) (ho : o.k = 2) :
    Calls Tryz.prog 154 #[.pointer (some ⟨g, 0, none⟩), pieceQ o sv] w fun e w' => e = .returned (.tuple #[.nilIface, .bool false]) ∧ Below w.heap.size w w' := by
  obtain ⟨p1, l1, q1, rfl⟩ := hs
  have cl := last_one pv FL (pieceQ x (.slice p1 l1 q1)) B w hrow hlen
  obtain ⟨p, cap, hpv⟩ := own_slice hrow
  obtain ⟨av, jv, hs0⟩ := h
  have c2 : w.cell? ⟨g, 2, none⟩ = some pv := by rw [cell_of_heap hs0.at_]; rfl
  obtain ⟨cx, hcx⟩ : ∃ z, x.c = z := ⟨_, rfl⟩
  obtain ⟨Vo, hVo⟩ : ∃ V, valP o.v = V := ⟨_, rfl⟩
  obtain ⟨tO, htO⟩ : ∃ z, o.t = z := ⟨_, rfl⟩
  rw [pieceQ_4 hx, hcx] at cl
  rw [pieceQ_2 ho, hVo, htO]
  clear hs0 hrow hx ho hpv hcx hVo htO
  have a0 := as_d_i
  have a1 := as_d_r
  go_enter Tryz.func154, Tryz.ntmps154
  go_wp2_with fail
  refine cl.mono ?_; rintro e w1 ⟨rfl, rfl⟩
  clear cl
  go_wp2
  go_ret2
  exact ⟨rfl, by go_grown⟩
set_option maxHeartbeats 4000000 in
set_option maxRecDepth 100000 in
theorem join_no43 {B g : Nat} {c0 c1 pv c3 : Value} {l : List UInt8} (x o : Op5) (s sv : Value) (FL : List Value) (w : World) (h : SbE w B g c0 c1 pv c3 l) (hrow : w.ownsRow B 102 1 pv (FL ++ [pieceQ x s]).length (FL ++ [pieceQ x s])) (hlen : FL.length ≤ 4194304) (hs : ∃ p n c, s = .slice p n c) (hx : x.k = 4) (ho : o.k = 3) :
    Calls Tryz.prog 154 #[.pointer (some ⟨g, 0, none⟩), pieceQ o sv] w fun e w' => e = .returned (.tuple #[.nilIface, .bool false]) ∧ Below w.heap.size w w' := by
  obtain ⟨p1, l1, q1, rfl⟩ := hs
  have cl := last_one pv FL (pieceQ x (.slice p1 l1 q1)) B w hrow hlen
  obtain ⟨p, cap, hpv⟩ := own_slice hrow
  obtain ⟨av, jv, hs0⟩ := h
  have c2 : w.cell? ⟨g, 2, none⟩ = some pv := by rw [cell_of_heap hs0.at_]; rfl
  obtain ⟨cx, hcx⟩ : ∃ z, x.c = z := ⟨_, rfl⟩
  obtain ⟨co, hco⟩ : ∃ z, o.c = z := ⟨_, rfl⟩
  rw [pieceQ_4 hx, hcx] at cl
  rw [pieceQ_3 ho, hco]
  clear hs0 hrow hx ho hpv hcx hco
  have a0 := as_d_i
  have a1 := as_d_r
  go_enter Tryz.func154, Tryz.ntmps154
  go_wp2_with fail
  refine cl.mono ?_; rintro e w1 ⟨rfl, rfl⟩
  clear cl
  go_wp2
  go_ret2
  exact ⟨rfl, by go_grown⟩
end Go.Proofs.YthfpmhnnjjikcabGreatDoor

/- build: join, where both are texts or both are retains. -/
namespace Go.Proofs.YthfpmhnnjjikcabGreatDoor
open Go Go.RowKit Go.Lib
set_option linter.unusedVariables false
theorem jnO_len {x o : Op5} (hx : brk x.t.data.toList = x.t.size) (ho : brk o.t.data.toList = o.t.size) : ((scs (x.t ++ o.t).data.toList).length : Int) = (scs x.t.data.toList).length + (scs o.t.data.toList).length := by
  have hc := scs_cat (a := x.t.data.toList) (b := o.t.data.toList) (by rw [hx, size_toList]) (by rw [ho, size_toList])
  rw [cat_list, hc.1, List.length_append]
  omega
/-- Two lists the same or not. -/
abbrev SameC (x o : Op5) : Prop := ∀ W v v', RowA W v x.A → RowA W v' o.A → Calls Tryz.prog 148 #[v, v'] W fun r w' => r = .returned (.bool (decide (x.A = o.A))) ∧ Below W.heap.size W w'

set_option maxHeartbeats 4000000 in
set_option maxRecDepth 100000 in
theorem join_no11 {B g : Nat} {c0 c1 pv c3 : Value} {l : List UInt8} (x o : Op5) (s sv : Value) (FL : List Value) (w : World) (h : SbE w B g c0 c1 pv c3 l) (hrow : w.ownsRow B 102 1 pv (FL ++ [pieceQ x s]).length (FL ++ [pieceQ x s])) (hlen : FL.length ≤ 4194304) (hx : x.k = 1) (ho : o.k = 1) (hA : x.A ≠ o.A) (hs : RowA w s x.A) (hsv : RowA w sv o.A) (hl1 : x.A.length ≤ 2097152) (hl2 : o.A.length ≤ 2097152) :
    Calls Tryz.prog 154 #[.pointer (some ⟨g, 0, none⟩), pieceQ o sv] w fun e w' => e = .returned (.tuple #[.nilIface, .bool false]) ∧ Below w.heap.size w w' := by
  have cl := last_one pv FL (pieceQ x s) B w hrow hlen
  have HS : Hid (SameC x o) := fun W v v' h1 h2 => same_any' v v' x.A o.A W h1 h2 (by omega) (by omega)
  obtain ⟨p, cap, hpv⟩ := own_slice hrow
  obtain ⟨av, jv, hs0⟩ := h
  have c2 : w.cell? ⟨g, 2, none⟩ = some pv := by rw [cell_of_heap hs0.at_]; rfl
  have hd : decide (x.A = o.A) = false := decide_eq_false hA
  obtain ⟨nx, hnx⟩ : ∃ z : Int, ((scs x.t.data.toList).length : Int) = z := ⟨_, rfl⟩
  obtain ⟨tx, htx⟩ : ∃ z, x.t = z := ⟨_, rfl⟩
  obtain ⟨no, hno⟩ : ∃ z : Int, ((scs o.t.data.toList).length : Int) = z := ⟨_, rfl⟩
  obtain ⟨tO, htO⟩ : ∃ z, o.t = z := ⟨_, rfl⟩
  obtain ⟨p1, q1, e1, _⟩ := hs.val
  obtain ⟨p2, q2, e2, _⟩ := hsv.val
  rw [e1] at hs
  rw [e2] at hsv
  obtain ⟨l1, hl1'⟩ : ∃ z, x.A.length = z := ⟨_, rfl⟩
  obtain ⟨l2, hl2'⟩ : ∃ z, o.A.length = z := ⟨_, rfl⟩
  rw [pieceQ_1 hx, hnx, htx, e1] at cl
  rw [pieceQ_1 ho, hno, htO, e2]
  rw [hl1'] at cl hs
  rw [hl2'] at hsv ⊢
  have b0 : Below w.heap.size w ((w.alloc (.cells #[.slice p1 l1 q1, .string tx, .int .i64 nx] 184)).alloc (.cells #[.slice p2 l2 q2, .string tO, .int .i64 no] 184)) := ((Below.refl _ _).alloc (Nat.le_refl _) _).alloc (by simp) _
  have cs := HS.out _ _ _ (hs.below b0) (hsv.below b0)
  rw [hd] at cs
  clear hs0 hrow hx ho hpv hnx htx hno htO e1 e2 hs hsv hl1 hl2 hl1' hl2' HS hd hA
  have a0 := as_i_i
  go_enter Tryz.func154, Tryz.ntmps154
  go_wp2_with fail
  refine cl.mono ?_; rintro e w1 ⟨rfl, rfl⟩
  clear cl
  go_wp2_with (go_at_call 148; refine cs.mono ?_; rintro r w2 ⟨rfl, hb2⟩; have b2 := b0.trans (hb2.mono b0.size); clear cs b0 hb2)
  go_ret2
  exact ⟨rfl, b2⟩
set_option maxHeartbeats 4000000 in
set_option maxRecDepth 100000 in
theorem join_no33 {B g : Nat} {c0 c1 pv c3 : Value} {l : List UInt8} (x o : Op5) (s sv : Value) (FL : List Value) (w : World) (h : SbE w B g c0 c1 pv c3 l) (hrow : w.ownsRow B 102 1 pv (FL ++ [pieceQ x s]).length (FL ++ [pieceQ x s])) (hlen : FL.length ≤ 4194304) (hx : x.k = 3) (ho : o.k = 3) (hA : x.A ≠ o.A) (hs : RowA w s x.A) (hsv : RowA w sv o.A) (hl1 : x.A.length ≤ 2097152) (hl2 : o.A.length ≤ 2097152) :
    Calls Tryz.prog 154 #[.pointer (some ⟨g, 0, none⟩), pieceQ o sv] w fun e w' => e = .returned (.tuple #[.nilIface, .bool false]) ∧ Below w.heap.size w w' := by
  have cl := last_one pv FL (pieceQ x s) B w hrow hlen
  have HS : Hid (SameC x o) := fun W v v' h1 h2 => same_any' v v' x.A o.A W h1 h2 (by omega) (by omega)
  obtain ⟨p, cap, hpv⟩ := own_slice hrow
  obtain ⟨av, jv, hs0⟩ := h
  have c2 : w.cell? ⟨g, 2, none⟩ = some pv := by rw [cell_of_heap hs0.at_]; rfl
  have hd : decide (x.A = o.A) = false := decide_eq_false hA
  obtain ⟨cx, hcx⟩ : ∃ z, x.c = z := ⟨_, rfl⟩
  obtain ⟨co, hco⟩ : ∃ z, o.c = z := ⟨_, rfl⟩
  obtain ⟨p1, q1, e1, _⟩ := hs.val
  obtain ⟨p2, q2, e2, _⟩ := hsv.val
  rw [e1] at hs
  rw [e2] at hsv
  obtain ⟨l1, hl1'⟩ : ∃ z, x.A.length = z := ⟨_, rfl⟩
  obtain ⟨l2, hl2'⟩ : ∃ z, o.A.length = z := ⟨_, rfl⟩
  rw [pieceQ_3 hx, hcx, e1] at cl
  rw [pieceQ_3 ho, hco, e2]
  rw [hl1'] at cl hs
  rw [hl2'] at hsv ⊢
  have b0 : Below w.heap.size w ((w.alloc (.cells #[.slice p1 l1 q1, .int .i64 cx] 115)).alloc (.cells #[.slice p2 l2 q2, .int .i64 co] 115)) := ((Below.refl _ _).alloc (Nat.le_refl _) _).alloc (by simp) _
  have cs := HS.out _ _ _ (hs.below b0) (hsv.below b0)
  rw [hd] at cs
  clear hs0 hrow hx ho hpv hcx hco e1 e2 hs hsv hl1 hl2 hl1' hl2' HS hd hA
  have a0 := as_r_r
  have a1 := as_r_i
  go_enter Tryz.func154, Tryz.ntmps154
  go_wp2_with fail
  refine cl.mono ?_; rintro e w1 ⟨rfl, rfl⟩
  clear cl
  go_wp2_with (go_at_call 148; refine cs.mono ?_; rintro r w2 ⟨rfl, hb2⟩; have b2 := b0.trans (hb2.mono b0.size); clear cs b0 hb2)
  go_ret2
  exact ⟨rfl, b2⟩
set_option maxHeartbeats 4000000 in
set_option maxRecDepth 100000 in
theorem join_yes33 {B g : Nat} {c0 c1 pv c3 : Value} {l : List UInt8} (x o : Op5) (s sv : Value) (FL : List Value) (w : World) (h : SbE w B g c0 c1 pv c3 l) (hrow : w.ownsRow B 102 1 pv (FL ++ [pieceQ x s]).length (FL ++ [pieceQ x s])) (hlen : FL.length ≤ 4194304) (hx : x.k = 3) (ho : o.k = 3) (hA : x.A = o.A) (hs : RowA w s x.A) (hsv : RowA w sv o.A) (hl1 : x.A.length ≤ 2097152) (hl2 : o.A.length ≤ 2097152) (hc1 : 0 ≤ x.c ∧ 0 ≤ o.c ∧ x.c + o.c ≤ 4398046511104) :
    Calls Tryz.prog 154 #[.pointer (some ⟨g, 0, none⟩), pieceQ o sv] w fun e w' => e = .returned (.tuple #[pieceQ (jnO x o) s, .bool true]) ∧ Below w.heap.size w w' := by
  have cl := last_one pv FL (pieceQ x s) B w hrow hlen
  have HS : Hid (SameC x o) := fun W v v' h1 h2 => same_any' v v' x.A o.A W h1 h2 (by omega) (by omega)
  obtain ⟨p, cap, hpv⟩ := own_slice hrow
  obtain ⟨av, jv, hs0⟩ := h
  have c2 : w.cell? ⟨g, 2, none⟩ = some pv := by rw [cell_of_heap hs0.at_]; rfl
  have hd : decide (x.A = o.A) = true := decide_eq_true hA
  have hj : (jnO x o).c = x.c + o.c := rfl
  rw [pieceQ_3 (show (jnO x o).k = 3 from hx), hj]
  obtain ⟨cx, hcx⟩ : ∃ z, x.c = z := ⟨_, rfl⟩
  obtain ⟨co, hco⟩ : ∃ z, o.c = z := ⟨_, rfl⟩
  rw [hcx, hco] at hc1
  obtain ⟨hc1, hc2, hc3⟩ := hc1
  obtain ⟨p1, q1, e1, _⟩ := hs.val
  obtain ⟨p2, q2, e2, _⟩ := hsv.val
  rw [e1] at hs
  rw [e2] at hsv
  obtain ⟨l1, hl1'⟩ : ∃ z, x.A.length = z := ⟨_, rfl⟩
  obtain ⟨l2, hl2'⟩ : ∃ z, o.A.length = z := ⟨_, rfl⟩
  rw [pieceQ_3 hx, hcx, e1] at cl
  rw [pieceQ_3 ho, hcx, hco, e1, e2]
  rw [hl1'] at cl hs ⊢
  rw [hl2'] at hsv ⊢
  have b0 : Below w.heap.size w ((w.alloc (.cells #[.slice p1 l1 q1, .int .i64 cx] 115)).alloc (.cells #[.slice p2 l2 q2, .int .i64 co] 115)) := ((Below.refl _ _).alloc (Nat.le_refl _) _).alloc (by simp) _
  have k0 : ((w.alloc (.cells #[.slice p1 l1 q1, .int .i64 cx] 115)).alloc (.cells #[.slice p2 l2 q2, .int .i64 co] 115)).heap[w.heap.size]? = some (.cells #[.slice p1 l1 q1, .int .i64 cx] 115 (0, 0)) := by
    rw [Lib.alloc_old _ _ _ (by simp)]; exact heap_alloc_new w _
  have k1 : ((w.alloc (.cells #[.slice p1 l1 q1, .int .i64 cx] 115)).alloc (.cells #[.slice p2 l2 q2, .int .i64 co] 115)).heap[w.heap.size + 1]? = some (.cells #[.slice p2 l2 q2, .int .i64 co] 115 (0, 0)) := by
    have := heap_alloc_new (w.alloc (.cells #[.slice p1 l1 q1, .int .i64 cx] 115)) (.cells #[.slice p2 l2 q2, .int .i64 co] 115)
    rw [World.size_alloc] at this
    exact this
  have cs := HS.out _ _ _ (hs.below b0) (hsv.below b0)
  rw [hd] at cs
  clear hs0 hrow hx ho hpv hcx hco e1 e2 hs hsv hl1 hl2 hl1' hl2' HS hd hA hj
  have a0 := as_r_r
  have a1 := as_r_i
  go_enter Tryz.func154, Tryz.ntmps154
  go_wp2_with fail
  refine cl.mono ?_; rintro e w1 ⟨rfl, rfl⟩
  clear cl
  go_wp2_with fail
  refine cs.mono ?_; rintro r w2 ⟨rfl, hb2⟩
  have b2 := b0.trans (hb2.mono b0.size)
  have m0 := (hb2.block _ (by simp only [World.size_alloc]; omega)).trans k0
  have m1 := (hb2.block _ (by simp only [World.size_alloc]; omega)).trans k1
  have d0 : w2.cell? ⟨w1.heap.size, 0, none⟩ = some (.slice p1 l1 q1) := by rw [cell_of_heap m0]; rfl
  have d1 : w2.cell? ⟨w1.heap.size, 1, none⟩ = some (.int .i64 cx) := by rw [cell_of_heap m0]; rfl
  have d2 : w2.cell? ⟨w1.heap.size + 1, 1, none⟩ = some (.int .i64 co) := by rw [cell_of_heap m1]; rfl
  have f1 : w2.frozen? ⟨w1.heap.size, 1, none⟩ = false := frozen_of_heap m0 1
  clear cs b0 hb2 k0 k1 m0 m1
  go_wp2
  go_ret2
  exact ⟨rfl, b2.setCell (Nat.le_refl _) _⟩
set_option maxHeartbeats 4000000 in
set_option maxRecDepth 100000 in
theorem join_yes11 {B g : Nat} {c0 c1 pv c3 : Value} {l : List UInt8} (x o : Op5) (s sv : Value) (FL : List Value) (w : World) (h : SbE w B g c0 c1 pv c3 l) (hrow : w.ownsRow B 102 1 pv (FL ++ [pieceQ x s]).length (FL ++ [pieceQ x s])) (hlen : FL.length ≤ 4194304) (hx : x.k = 1) (ho : o.k = 1) (hA : x.A = o.A) (hs : RowA w s x.A) (hsv : RowA w sv o.A) (hl1 : x.A.length ≤ 2097152) (hl2 : o.A.length ≤ 2097152) (hl : l = [] ∨ l = x.t.data.toList) (ix : Ins x) (io : Ins o) (hsz : x.t.size + o.t.size ≤ 16777216) (hB : B ≤ w.heap.size) :
    Calls Tryz.prog 154 #[.pointer (some ⟨g, 0, none⟩), pieceQ o sv] w fun e w' => e = .returned (.tuple #[pieceQ (jnO x o) s, .bool true]) ∧ SbE w' B g c0 c1 pv c3 (x.t ++ o.t).data.toList ∧ FrB B (fun k => k ≠ g) w w' := by
  have cl := last_one pv FL (pieceQ x s) B w hrow hlen
  have HS : Hid (SameC x o) := fun W v v' h1 h2 => same_any' v v' x.A o.A W h1 h2 (by omega) (by omega)
  have HJ : Hid (∀ W, Below w.heap.size w W → Calls Tryz.prog 167 #[.pointer (some ⟨g, 0, none⟩), .string x.t, .string o.t] W fun e w' => e = .returned (.string (x.t ++ o.t)) ∧ SbE w' B g c0 c1 pv c3 (x.t ++ o.t).data.toList ∧ FrB B (fun k => k ≠ g) W w') := fun W hW =>
    joinText_any B g c0 c1 pv c3 l x.t o.t W (h.below hW) hl (isEmp_size ix.full) hsz (Nat.le_trans hB hW.size)
  have hgw : g < w.heap.size := by obtain ⟨_, _, h⟩ := h; exact h.lt
  obtain ⟨p, cap, hpv⟩ := own_slice hrow
  obtain ⟨av, jv, hs0⟩ := h
  have c2 : w.cell? ⟨g, 2, none⟩ = some pv := by rw [cell_of_heap hs0.at_]; rfl
  have hd : decide (x.A = o.A) = true := decide_eq_true hA
  have hj : (jnO x o).t = x.t ++ o.t := rfl
  have hn := jnO_len ix.utf io.utf
  have hvx := (valid_text x.t ix.utf).2.2
  have hvo := (valid_text o.t io.utf).2.2
  rw [pieceQ_1 (show (jnO x o).k = 1 from hx), hj, hn]
  obtain ⟨nx, hnx⟩ : ∃ z : Int, ((scs x.t.data.toList).length : Int) = z := ⟨_, rfl⟩
  obtain ⟨no, hno⟩ : ∃ z : Int, ((scs o.t.data.toList).length : Int) = z := ⟨_, rfl⟩
  have hn1 : 0 ≤ nx ∧ nx ≤ 16777216 := by omega
  have hn2 : 0 ≤ no ∧ no ≤ 16777216 := by omega
  obtain ⟨hn1, hn3⟩ := hn1
  obtain ⟨hn2, hn4⟩ := hn2
  rw [hnx, hno]
  obtain ⟨tj, htj⟩ : ∃ z, x.t ++ o.t = z := ⟨_, rfl⟩
  rw [htj] at HJ ⊢
  obtain ⟨tx, htx⟩ : ∃ z, x.t = z := ⟨_, rfl⟩
  obtain ⟨tO, htO⟩ : ∃ z, o.t = z := ⟨_, rfl⟩
  rw [htx, htO] at HJ
  obtain ⟨p1, q1, e1, _⟩ := hs.val
  obtain ⟨p2, q2, e2, _⟩ := hsv.val
  rw [e1] at hs
  rw [e2] at hsv
  obtain ⟨l1, hl1'⟩ : ∃ z, x.A.length = z := ⟨_, rfl⟩
  obtain ⟨l2, hl2'⟩ : ∃ z, o.A.length = z := ⟨_, rfl⟩
  rw [pieceQ_1 hx, hnx, htx, e1] at cl
  rw [pieceQ_1 ho, hno, htO, e1, e2]
  rw [hl1'] at cl hs ⊢
  rw [hl2'] at hsv ⊢
  have b0 : Below w.heap.size w ((w.alloc (.cells #[.slice p1 l1 q1, .string tx, .int .i64 nx] 184)).alloc (.cells #[.slice p2 l2 q2, .string tO, .int .i64 no] 184)) := ((Below.refl _ _).alloc (Nat.le_refl _) _).alloc (by simp) _
  have k0 : ((w.alloc (.cells #[.slice p1 l1 q1, .string tx, .int .i64 nx] 184)).alloc (.cells #[.slice p2 l2 q2, .string tO, .int .i64 no] 184)).heap[w.heap.size]? = some (.cells #[.slice p1 l1 q1, .string tx, .int .i64 nx] 184 (0, 0)) := by
    rw [Lib.alloc_old _ _ _ (by simp)]; exact heap_alloc_new w _
  have k1 : ((w.alloc (.cells #[.slice p1 l1 q1, .string tx, .int .i64 nx] 184)).alloc (.cells #[.slice p2 l2 q2, .string tO, .int .i64 no] 184)).heap[w.heap.size + 1]? = some (.cells #[.slice p2 l2 q2, .string tO, .int .i64 no] 184 (0, 0)) := by
    have := heap_alloc_new (w.alloc (.cells #[.slice p1 l1 q1, .string tx, .int .i64 nx] 184)) (.cells #[.slice p2 l2 q2, .string tO, .int .i64 no] 184)
    rw [World.size_alloc] at this
    exact this
  have cs := HS.out _ _ _ (hs.below b0) (hsv.below b0)
  rw [hd] at cs
  have HB : Hid (B ≤ w.heap.size ∧ g < w.heap.size) := ⟨hB, hgw⟩
  clear hs0 hrow hx ho hpv e1 e2 hs hsv hl1 hl2 hl1' hl2' HS hd hA hj hn hvx hvo hnx hno htj htx htO ix io hsz hl hB hgw
  have a0 := as_i_i
  go_enter Tryz.func154, Tryz.ntmps154
  go_wp2_with fail
  refine cl.mono ?_; rintro e w1 ⟨rfl, rfl⟩
  clear cl
  go_wp2_with fail
  refine cs.mono ?_; rintro r w2 ⟨rfl, hb2⟩
  have b2 := b0.trans (hb2.mono b0.size)
  have m0 := (hb2.block _ (by simp only [World.size_alloc]; omega)).trans k0
  have m1 := (hb2.block _ (by simp only [World.size_alloc]; omega)).trans k1
  have d1 : w2.cell? ⟨w1.heap.size, 1, none⟩ = some (.string tx) := by rw [cell_of_heap m0]; rfl
  have d2 : w2.cell? ⟨w1.heap.size + 1, 1, none⟩ = some (.string tO) := by rw [cell_of_heap m1]; rfl
  have cj := HJ.out _ b2
  have HM : Hid (w2.heap[w1.heap.size]? = _ ∧ w2.heap[w1.heap.size + 1]? = _ ∧ Below w1.heap.size w1 w2) := ⟨m0, m1, b2⟩
  clear cs b0 hb2 k0 k1 HJ m0 m1 b2
  go_wp2_with fail
  refine cj.mono ?_; rintro r w3 ⟨rfl, h3, f3⟩
  have m0 := f3.kept _ _ HM.out.1 (by have := HB.out.2; omega) (fun c fz e => by simp only [Obj.cells.injEq] at e; exact absurd e.2.1 (by decide))
  have m1 := f3.kept _ _ HM.out.2.1 (by have := HB.out.2; omega) (fun c fz e => by simp only [Obj.cells.injEq] at e; exact absurd e.2.1 (by decide))
  have e0 : w3.cell? ⟨w1.heap.size, 0, none⟩ = some (.slice p1 l1 q1) := by rw [cell_of_heap m0]; rfl
  have e1 : w3.cell? ⟨w1.heap.size, 1, none⟩ = some (.string tx) := by rw [cell_of_heap m0]; rfl
  have e2 : w3.cell? ⟨w1.heap.size, 2, none⟩ = some (.int .i64 nx) := by rw [cell_of_heap m0]; rfl
  have e3 : w3.cell? ⟨w1.heap.size + 1, 2, none⟩ = some (.int .i64 no) := by rw [cell_of_heap m1]; rfl
  have g1 : w3.frozen? ⟨w1.heap.size, 1, none⟩ = false := frozen_of_heap m0 1
  have g2 : w3.frozen? ⟨w1.heap.size, 2, none⟩ = false := frozen_of_heap m0 2
  have m0' : (w3.setCell ⟨w1.heap.size, 1, none⟩ (.string tj)).heap[w1.heap.size]? = some (.cells #[.slice p1 l1 q1, .string tj, .int .i64 nx] 184 (0, 0)) := by rw [heap_set_at _ _ _ _ _ _ _ m0]; rfl
  have HS3 : Hid (SbE ((w3.setCell ⟨w1.heap.size, 1, none⟩ (.string tj)).setCell ⟨w1.heap.size, 2, none⟩ (.int .i64 (nx + no))) B g c0 c1 pv c3 tj.data.toList) := (h3.set_other m0 (by decide) (by decide) _).set_other m0' (by decide) (by decide) _
  have HF3 : Hid (FrB B (fun k => k ≠ g) w1 ((w3.setCell ⟨w1.heap.size, 1, none⟩ (.string tj)).setCell ⟨w1.heap.size, 2, none⟩ (.int .i64 (nx + no)))) := by
    have h0 : FrB B (fun k => k ≠ g ∧ k < w1.heap.size) w1 w3 := (FrB.of_below HM.out.2.2 HB.out.1).trans (f3.mono fun k hk => hk.1)
    have h1 := (h0.setCell m0 (by decide) HB.out.1 (by omega) (j := 1) (.string tj)).setCell m0' (by decide) HB.out.1 (by omega) (j := 2) (.int .i64 (nx + no))
    exact ⟨h1.below, fun k o ho hk hn => h1.kept k o ho ⟨hk, (Array.getElem?_eq_some_iff.1 ho).1⟩ hn, h1.keepA⟩
  clear cj h3 f3 m0 m1 m0' d1 d2 HM HB
  go_wp2
  go_ret2
  exact ⟨rfl, HS3.out, HF3.out⟩
end Go.Proofs.YthfpmhnnjjikcabGreatDoor

/- build: add and settle: a piece put behind the others. -/
namespace Go.Proofs.YthfpmhnnjjikcabGreatDoor
open Go Go.RowKit Go.Lib
set_option linter.unusedVariables false
/-- append(own, one piece), with where the new slice lies. -/
theorem wpList_append_piAt {w : World} {ops : Array Oper} {rest : List Oper} {o : Oper} {a : Act} {Q : Exit → Act → World → Prop} (hgd : o.guard = none) (s x : Operand)
    (ho : o.op = .call { callee := .builtin .append, args := #[s, x], argTypes := #[116, 116] })
    (base : Nat) (v : Value) (P : List Value) (hs : a.eval s = v) (hown : OwnI w base v P)
    (b c : Nat) (u : Value) (hx : a.eval x = .slice (some ⟨b, 0, none⟩) 1 c) (hu : w.cell? ⟨b, 0, none⟩ = some u) (h1 : u.oneCell' = true)
    (h63 : P.length ≤ 8388608) (hbase : base ≤ w.heap.size)
    (h : ∀ v' w', OwnI w' base v' (P ++ [u]) → w.grownBy w' v.ownBlock → (v'.ownBlock = v.ownBlock ∨ v'.ownBlock = some w.heap.size) → wpList Tryz.prog ops Q rest (a.put o.dst v') w') : wpList Tryz.prog ops Q (o :: rest) a w := by
  obtain ⟨i, z, hi, hz, hz1, hz2, hz3⟩ := infoPi
  exact wpList_append_own_at _ hgd s x _ ho base 102 i z 1 16 Tryz.underlying116 hi hz hz1 hz2 hz3 (by decide) v P.length P hs hown ⟨b, 0, none⟩ 1 c [u] hx rfl (by intro j y hj; cases j with | zero => (simp at hj; subst hj; exact hu) | succ j => simp at hj) (fun y hy => by rw [List.mem_singleton.1 hy]; exact h1) (by unfold maxLen; omega) (by omega) hbase (fun v' w' h1 h2 _ h3 => h v' w' (by show w'.ownsRow _ _ _ _ _ _; rw [List.length_append]; exact h1) h2 h3)

/-- A builder in memory: what it has gathered. -/
structure Bld (w : World) (B : Nat) (D : Nat → Prop) (g : Nat) (b r : Int) (P : List Op5) (d : Int) (pv : Value) (PL : List Value) (l : List UInt8) : Prop where
  sb : SbE w B g (.int .i64 b) (.int .i64 r) pv (.int .i64 d) l
  nd : ¬ D g
  row : OwnI w B pv PL
  rnd : ∀ k, pv.ownBlock = some k → ¬ D k
  pie : PieD w B PL P
  txt : l = [] ∨ ∃ F x, P = F ++ [x] ∧ x.k = 1 ∧ l = x.t.data.toList
def BldE (w : World) (B : Nat) (D : Nat → Prop) (g : Nat) (b r : Int) (P : List Op5) (d : Int) : Prop := ∃ pv PL l, Bld w B D g b r P d pv PL l

theorem SbE.cells {w : World} {B g : Nat} {c0 c1 c2 c3 : Value} {l : List UInt8} (h : SbE w B g c0 c1 c2 c3 l) : w.cell? ⟨g, 0, none⟩ = some c0 ∧ w.cell? ⟨g, 1, none⟩ = some c1 ∧ w.cell? ⟨g, 2, none⟩ = some c2 ∧ w.cell? ⟨g, 3, none⟩ = some c3 ∧ (∀ j, w.frozen? ⟨g, j, none⟩ = false) ∧ B ≤ g ∧ ∃ cs, w.heap[g]? = some (.cells cs 134 (0, 0)) := by
  obtain ⟨av, jv, h⟩ := h
  refine ⟨?_, ?_, ?_, ?_, fun j => frozen_of_heap h.at_ j, h.lo, _, h.at_⟩ <;> (rw [cell_of_heap h.at_]; rfl)
theorem SbE.lt {w : World} {B g : Nat} {c0 c1 c2 c3 : Value} {l : List UInt8} (h : SbE w B g c0 c1 c2 c3 l) : g < w.heap.size := by obtain ⟨av, jv, h⟩ := h; exact h.lt
theorem SbE.set0 {w : World} {B g : Nat} {c0 c1 c2 c3 : Value} {l : List UInt8} (h : SbE w B g c0 c1 c2 c3 l) (u : Value) : SbE (w.setCell ⟨g, 0, none⟩ u) B g u c1 c2 c3 l := by
  obtain ⟨av, jv, h⟩ := h
  exact ⟨av, jv, h.lo, by rw [heap_set_at _ _ _ _ _ _ _ h.at_]; rfl, rowF_same h.buf fun k hk => Below.heap_setCell _ _ _ _ (fun e => h.ne (by rw [hk, e])), h.adr⟩
theorem SbE.set1 {w : World} {B g : Nat} {c0 c1 c2 c3 : Value} {l : List UInt8} (h : SbE w B g c0 c1 c2 c3 l) (u : Value) : SbE (w.setCell ⟨g, 1, none⟩ u) B g c0 u c2 c3 l := by
  obtain ⟨av, jv, h⟩ := h
  exact ⟨av, jv, h.lo, by rw [heap_set_at _ _ _ _ _ _ _ h.at_]; rfl, rowF_same h.buf fun k hk => Below.heap_setCell _ _ _ _ (fun e => h.ne (by rw [hk, e])), h.adr⟩
theorem SbE.set2 {w : World} {B g : Nat} {c0 c1 c2 c3 : Value} {l : List UInt8} (h : SbE w B g c0 c1 c2 c3 l) (u : Value) : SbE (w.setCell ⟨g, 2, none⟩ u) B g c0 c1 u c3 l := by
  obtain ⟨av, jv, h⟩ := h
  exact ⟨av, jv, h.lo, by rw [heap_set_at _ _ _ _ _ _ _ h.at_]; rfl, rowF_same h.buf fun k hk => Below.heap_setCell _ _ _ _ (fun e => h.ne (by rw [hk, e])), h.adr⟩
theorem SbE.set3 {w : World} {B g : Nat} {c0 c1 c2 c3 : Value} {l : List UInt8} (h : SbE w B g c0 c1 c2 c3 l) (u : Value) : SbE (w.setCell ⟨g, 3, none⟩ u) B g c0 c1 c2 u l := by
  obtain ⟨av, jv, h⟩ := h
  exact ⟨av, jv, h.lo, by rw [heap_set_at _ _ _ _ _ _ _ h.at_]; rfl, rowF_same h.buf fun k hk => Below.heap_setCell _ _ _ _ (fun e => h.ne (by rw [hk, e])), h.adr⟩
theorem SbE.grown {w w' : World} {B g : Nat} {c0 c1 c2 c3 : Value} {l : List UInt8} {row : Option Nat} (h : SbE w B g c0 c1 c2 c3 l) (hg : w.grownBy w' row) (hr : ∀ k, row = some k → ∃ cs T fz, w.heap[k]? = some (.cells cs T fz) ∧ T ≠ 134 ∧ T ≠ 5) : SbE w' B g c0 c1 c2 c3 l := by
  obtain ⟨av, jv, h⟩ := h
  have key : ∀ (k : Nat) (cs : Array Value) (T : TypeId) (fz : Nat × Nat), w.heap[k]? = some (Obj.cells cs T fz) → T = 134 ∨ T = 5 → w'.heap[k]? = w.heap[k]? := fun k cs T fz hk hT => by
    refine hg.block k (Array.getElem?_eq_some_iff.1 hk).1 fun e => ?_
    obtain ⟨cs', T', fz', h1, h2, h3⟩ := hr k e.symm
    rw [hk] at h1
    simp only [Option.some.injEq, Obj.cells.injEq] at h1
    rcases hT with hT | hT
    · exact h2 (h1.2.1 ▸ hT)
    · exact h3 (h1.2.1 ▸ hT)
  refine ⟨av, jv, h.lo, (key _ _ _ _ h.at_ (Or.inl rfl)).trans h.at_, rowF_same h.buf fun k hk => ?_, h.adr⟩
  rcases h.buf.2 with ⟨rfl, _⟩ | ⟨g', cap, cur, fz, rfl, _, hgg, _⟩
  · cases hk
  · simp only [Value.ownBlock, Option.some.injEq] at hk
    obtain rfl := hk
    exact key _ _ _ _ hgg (Or.inr rfl)
theorem own_ne {w : World} {B g : Nat} {v : Value} {n : Nat} {PL : List Value} {cs : Array Value} {fz : Nat × Nat} (h : w.ownsRow B 102 1 v n PL) (hg : w.heap[g]? = some (.cells cs 134 fz)) : v.ownBlock ≠ some g := fun e => by
  obtain ⟨_, cur, h2⟩ := owns_block h g e
  rw [h2] at hg
  simp only [Option.some.injEq, Obj.cells.injEq] at hg
  exact absurd hg.2.1 (by decide)
theorem Bld.below {w w' : World} {B : Nat} {D : Nat → Prop} {g : Nat} {b r : Int} {P : List Op5} {d : Int} {pv : Value} {PL : List Value} {l : List UInt8} (h : Bld w B D g b r P d pv PL l) (hb : Below w.heap.size w w') : Bld w' B D g b r P d pv PL l :=
  ⟨h.sb.below hb, h.nd, owns_below h.row hb, h.rnd, h.pie.below hb, h.txt⟩
/-- Rows of pieces stand while the builder's own block is written. -/
theorem FrB.rowI {w w' : World} {B g : Nat} {v : Value} {n : Nat} {PL : List Value} {cs : Array Value} {fz : Nat × Nat} (f : FrB B (fun k => k ≠ g) w w') (h : w.ownsRow B 102 1 v n PL) (hg : w.heap[g]? = some (.cells cs 134 fz)) : w'.ownsRow B 102 1 v n PL :=
  owns_same h fun k hk => by
    obtain ⟨_, cur, h2⟩ := owns_block h k hk
    rw [h2]
    exact f.kept k _ h2 (fun e => own_ne h hg (by rw [hk, e])) (fun c fz e => by simp only [Obj.cells.injEq] at e; exact absurd e.2.1 (by decide))

set_option maxHeartbeats 4000000 in
set_option maxRecDepth 100000 in
theorem add_app {B g : Nat} {D : Nat → Prop} {b r : Int} {P : List Op5} {d : Int} {pv : Value} {PL : List Value} {l : List UInt8} (o : Op5) (sv : Value) (w : World) (h : Bld w B D g b r P d pv PL l) (hsv : OwnA w B sv o.A) (hD : ∀ k, D k → k < w.heap.size) (hl : P.length ≤ 4194304)
    (cj : Calls Tryz.prog 154 #[.pointer (some ⟨g, 0, none⟩), pieceQ o sv] w fun e w' => e = .returned (.tuple #[.nilIface, .bool false]) ∧ Below w.heap.size w w') :
    Calls Tryz.prog 137 #[.pointer (some ⟨g, 0, none⟩), pieceQ o sv] w fun e w' => e = .returned (.tuple #[]) ∧ BldE w' B D g b r (P ++ [o]) d ∧ FrB B D w w' := by
  have hPL : PL.length ≤ 8388608 := by rw [forall2_len h.pie]; omega
  have hw : B ≤ w.heap.size := by have := h.sb.lt; have := h.sb.cells.2.2.2.2.2.1; omega
  obtain ⟨u, y, hux⟩ := pieceQ_if o sv
  have HX : Hid (pieceQ o sv = .iface u y) := hux
  have HH : Hid (Bld w B D g b r P d pv PL l ∧ OwnA w B sv o.A ∧ (∀ k, D k → k < w.heap.size) ∧ B ≤ w.heap.size) := ⟨h, hsv, hD, hw⟩
  rw [hux] at cj ⊢
  clear h hsv hD hl hux hw
  go_enter Tryz.func137, Tryz.ntmps137
  go_wp2_with fail
  refine cj.mono ?_; rintro e w1 ⟨rfl, hb1⟩
  have H1 := HH.out.1.below hb1
  have cr := sbReset_any B g _ _ _ _ _ w1 H1.sb
  have HK : Hid (Bld w1 B D g b r P d pv PL l ∧ Below w.heap.size w w1) := ⟨H1, hb1⟩
  clear cj hb1 H1
  go_wp2_with fail
  refine cr.mono ?_; rintro e w2 ⟨rfl, h2, f2⟩
  obtain ⟨_, _, q2, _, fz2, hBg, cs2, hk2⟩ := h2.cells
  obtain ⟨_, _, _, _, _, _, cs1, hk1⟩ := HK.out.1.sb.cells
  have r2 := f2.rowI HK.out.1.row hk1
  have p2 : PieD w2 B PL P := HK.out.1.pie.keep f2.keepA
  have s2 : OwnA w2 B sv o.A := keepA_own (owns_below HH.out.2.1 HK.out.2) f2.keepA
  have F2 : FrB B D w w2 := (FrB.of_below HK.out.2 HH.out.2.2.2).trans (f2.mono fun k hk e => HH.out.1.nd (e ▸ hk))
  have ba : Below w2.heap.size w2 (w2.alloc (.cells #[.iface u y] 102)) := (Below.refl _ _).alloc (Nat.le_refl _) _
  have hB2 : B ≤ w2.heap.size := Nat.le_trans HH.out.2.2.2 F2.below.size
  have HG : Hid (SbE (w2.alloc (.cells #[.iface u y] 102)) B g (.int .i64 b) (.int .i64 r) pv (.int .i64 d) [] ∧ PieD (w2.alloc (.cells #[.iface u y] 102)) B PL P ∧ OwnA (w2.alloc (.cells #[.iface u y] 102)) B sv o.A ∧ FrB B D w (w2.alloc (.cells #[.iface u y] 102)) ∧ B ≤ g ∧ w.heap.size ≤ w2.heap.size) := ⟨h2.below ba, p2.below ba, owns_below s2 ba, F2.alloc hB2 _, hBg, F2.below.size⟩
  have HR : OwnI (w2.alloc (.cells #[.iface u y] 102)) B pv PL := owns_below r2 ba
  have hu6 : (w2.alloc (.cells #[.iface u y] 102)).cell? ⟨w2.heap.size, 0, none⟩ = some (.iface u y) := by simp
  have hbs : B ≤ (w2.alloc (.cells #[.iface u y] 102)).heap.size := Nat.le_trans hB2 ba.size
  have HKR : Hid (OwnI (w2.alloc (.cells #[.iface u y] 102)) B pv PL) := HR
  clear cr h2 f2 r2 p2 s2 F2 hk1 hk2 ba HK HR
  have HW : Hid (∀ (p8 : Option Addr) (c8 : Nat) (w8 : World), OwnI w8 B (.slice p8 (PL ++ [Value.iface u y]).length c8) (PL ++ [.iface u y]) → (w2.alloc (.cells #[.iface u y] 102)).grownBy w8 pv.ownBlock → ((Value.slice p8 (PL ++ [Value.iface u y]).length c8).ownBlock = pv.ownBlock ∨ (Value.slice p8 (PL ++ [Value.iface u y]).length c8).ownBlock = some (w2.alloc (.cells #[.iface u y] 102)).heap.size) →
      w8.cell? ⟨g, 2, none⟩ = some pv ∧ w8.frozen? ⟨g, 2, none⟩ = false ∧ BldE (w8.setCell ⟨g, 2, none⟩ (.slice p8 (PL ++ [Value.iface u y]).length c8)) B D g b r (P ++ [o]) d ∧ FrB B D w (w8.setCell ⟨g, 2, none⟩ (.slice p8 (PL ++ [Value.iface u y]).length c8))) := fun p8 c8 w8 z1 z4 z5 => by
    have hrow : ∀ k, pv.ownBlock = some k → ∃ cs T fz, (w2.alloc (.cells #[.iface u y] 102)).heap[k]? = some (.cells cs T fz) ∧ T ≠ 134 ∧ T ≠ 5 := fun k hk => by
      obtain ⟨_, cur, h2⟩ := owns_block HKR.out k hk
      exact ⟨cur, _, _, h2, by decide, by decide⟩
    obtain ⟨y1, y2, y3, y4, y5, y6⟩ := HG.out
    have z2 := y1.grown z4 hrow
    have z3 := keepA_grownI HKR.out z4
    obtain ⟨_, _, m2, _, mf, _, cs8, hk8⟩ := z2.cells
    have ne8 := own_ne z1 hk8
    refine ⟨m2, mf 2, ⟨_, _, [], z2.set2 _, HH.out.1.nd, ownsRow_setCell_other z1 ne8 _, fun k hk => ?_, ?_, Or.inl rfl⟩, ?_⟩
    · rcases z5 with e | e
      · exact HH.out.1.rnd k (by rw [← e]; exact hk)
      · intro hd
        rw [e] at hk
        have := HH.out.2.2.1 k hd
        simp only [Option.some.injEq, World.size_alloc] at hk
        omega
    · have hA : KeepA w8 (w8.setCell ⟨g, 2, none⟩ (.slice p8 (PL ++ [Value.iface u y]).length c8)) := ((FrB.refl B (fun k => k ≠ g) w8).setCell hk8 (by decide) y5 (by simp) _).keepA
      exact PieD.keep (forall2_append (y2.keep z3) (.cons ⟨sv, HX.out.symm, keepA_own y3 z3⟩ .nil)) hA
    · refine (y4.grown z4 (Nat.le_trans HH.out.2.2.2 (by rw [World.size_alloc]; omega)) fun k hk => ?_).setCell hk8 (by decide) y5 HH.out.1.nd _
      obtain ⟨hB, cur, h2⟩ := owns_block HKR.out k hk
      exact ⟨hB, cur, _, _, h2, by decide, fun hd => absurd hd (HH.out.1.rnd k hk)⟩
  clear HG HH HX hBg hB2
  go_wp2_with (at_builtin; refine wpList_append_piAt rfl (.tmp 33) (.tmp 35) rfl B pv PL rfl HKR.out w2.heap.size 1 (.iface u y) rfl hu6 rfl hPL hbs ?_; intro v8 w8 own8 gr8 at8; obtain ⟨p8, c8, rfl⟩ := own_slice own8; obtain ⟨m2, mf2, hq⟩ := HW.out p8 c8 w8 own8 gr8 at8; have HQ : Hid _ := hq; clear own8 gr8 at8 hq HW hu6 q2 HKR)
  go_end0
  refine ⟨rfl, ?_⟩
  have hq := HQ.out
  rw [show (PL ++ [Value.iface u y]).length = PL.length + 1 by simp] at hq
  exact hq
set_option maxHeartbeats 4000000 in
set_option maxRecDepth 100000 in
theorem add_set {B g : Nat} {D : Nat → Prop} {b r : Int} {F : List Op5} {x x' : Op5} {d : Int} {pv : Value} {PL : List Value} {l : List UInt8} (o : Op5) (s sv : Value) (FL : List Value) (w : World) (h : Bld w B D g b r (F ++ [x]) d pv PL l) (hPL : PL = FL ++ [pieceQ x s]) (hF : PieD w B FL F) (hs : OwnA w B s x.A) (hD : ∀ k, D k → k < w.heap.size) (hl : F.length ≤ 4194304) (hA : x'.A = x.A)
    (cj : Calls Tryz.prog 154 #[.pointer (some ⟨g, 0, none⟩), pieceQ o sv] w fun e w' => e = .returned (.tuple #[pieceQ x' s, .bool true]) ∧ (∃ l', SbE w' B g (.int .i64 b) (.int .i64 r) pv (.int .i64 d) l' ∧ (l' = [] ∨ (x'.k = 1 ∧ l' = x'.t.data.toList))) ∧ FrB B (fun k => k ≠ g) w w') :
    Calls Tryz.prog 137 #[.pointer (some ⟨g, 0, none⟩), pieceQ o sv] w fun e w' => e = .returned (.tuple #[]) ∧ BldE w' B D g b r (F ++ [x']) d ∧ FrB B D w w' := by
  obtain ⟨u, y, hux⟩ := pieceQ_if o sv
  obtain ⟨u', y', hux'⟩ := pieceQ_if x' s
  have HX : Hid (pieceQ x' s = .iface u' y') := hux'
  subst hPL
  have hrow := h.row
  obtain ⟨pb, cap, hpv⟩ : ∃ pb cap, pv = .slice (some ⟨pb, 0, none⟩) (FL.length + 1) cap := by
    obtain ⟨q, c, z, e, _⟩ := own_cell hrow FL.length (by simp)
    exact ⟨q, c, by rw [e]; simp⟩
  subst hpv
  obtain ⟨n, hn⟩ : ∃ n, FL.length = n := ⟨_, rfl⟩
  have hn1 : (FL ++ [pieceQ x s]).length = n + 1 := by simp [hn]
  have hnl : n ≤ 4194304 := by rw [← hn, forall2_len hF]; exact hl
  have HH : Hid (Bld w B D g b r (F ++ [x]) d (.slice (some ⟨pb, 0, none⟩) (FL.length + 1) cap) (FL ++ [pieceQ x s]) l ∧ PieD w B FL F ∧ OwnA w B s x.A ∧ FL.length = n) := ⟨h, hF, hs, hn⟩
  rw [hn] at cj
  rw [hux, hux'] at cj
  rw [hux]
  clear h hF hs hD hl hux hux' hrow hn1
  have hz : ((n : Int) + 1) - 1 = (n : Int) := by omega
  go_enter Tryz.func137, Tryz.ntmps137
  go_wp2_with fail
  refine cj.mono ?_; rintro e w1 ⟨rfl, ⟨l', h1, hl'⟩, f1⟩
  obtain ⟨_, _, _, _, _, _, cs0, hk0⟩ := HH.out.1.sb.cells
  obtain ⟨_, _, q2, _, _, hBg, cs1, hk1⟩ := h1.cells
  have r1 := f1.rowI HH.out.1.row hk0
  have hpb : pb ≠ g := fun e => own_ne r1 hk1 (by rw [← e]; rfl)
  obtain ⟨hBpb, cur, hkp⟩ := owns_block r1 pb rfl
  have qc : w1.cell? ⟨pb, n, none⟩ = some (pieceQ x s) := by
    have := r1.cells (g := pb) rfl n (pieceQ x s) (by rw [← HH.out.2.2.2]; simp)
    rw [Addr.add_lit, Nat.zero_add] at this
    exact this
  have qf : w1.frozen? ⟨pb, n, none⟩ = false := frozen_of_heap hkp n
  obtain ⟨old, hold⟩ : ∃ z, pieceQ x s = z := ⟨_, rfl⟩
  have hoi : ∃ u z, old = .iface u z := by rw [← hold]; exact pieceQ_if x s
  rw [hold] at qc
  have HQ : Hid (BldE (w1.drew.setCell ⟨pb, n, none⟩ (.iface u' y')) B D g b r (F ++ [x']) d ∧ FrB B D w (w1.drew.setCell ⟨pb, n, none⟩ (.iface u' y'))) := by
    have hlen : (FL ++ [pieceQ x s]).length = n + 1 := by simp [HH.out.2.2.2]
    have r1' : w1.drew.ownsRow B 102 1 (.slice (some ⟨pb, 0, none⟩) (n + 1) cap) (n + 1) (FL ++ [pieceQ x s]) := by
      have := r1
      rw [HH.out.2.2.2] at this
      rw [hlen] at this
      exact this
    have st := (r1'.stored n (.iface u' y')).1
    have e1 : (FL ++ [pieceQ x s]).set n (.iface u' y') = FL ++ [.iface u' y'] := by rw [← HH.out.2.2.2]; simp
    rw [e1] at st
    have hkp' : w1.drew.heap[pb]? = some (.cells cur 102 (0, 0)) := hkp
    have S1 : SbE w1.drew B g (.int .i64 b) (.int .i64 r) (.slice (some ⟨pb, 0, none⟩) (n + 1) cap) (.int .i64 d) l' := by obtain ⟨a1, a2, a3⟩ := h1; exact ⟨a1, a2, a3.lo, a3.at_, a3.buf, a3.adr⟩
    have hK : KeepA w1.drew (w1.drew.setCell ⟨pb, n, none⟩ (.iface u' y')) := ((FrB.refl B (fun _ => False) w1.drew).setCell hkp' (by decide) hBpb (by simp) _).keepA
    refine ⟨⟨.slice (some ⟨pb, 0, none⟩) (n + 1) cap, FL ++ [.iface u' y'], l', ?_, HH.out.1.nd, ?_, ?_, ?_, ?_⟩, ?_⟩
    · exact S1.set_other hkp' (by decide) (by decide) _
    · show World.ownsRow _ _ _ _ _ _ _
      rw [show (FL ++ [Value.iface u' y']).length = n + 1 by simp [HH.out.2.2.2]]
      exact st
    · have := HH.out.1.rnd
      exact fun k hk => this k hk
    · have p1 : PieD w1.drew B FL F := HH.out.2.1.keep f1.keepA
      have s1 : OwnA w1.drew B s x.A := keepA_own HH.out.2.2.1 f1.keepA
      exact PieD.keep (forall2_append p1 (.cons ⟨s, HX.out.symm, by rw [hA]; exact s1⟩ .nil)) hK
    · rcases hl' with e | ⟨e1, e2⟩
      · exact Or.inl e
      · exact Or.inr ⟨F, x', rfl, e1, e2⟩
    · have f2 : FrB B D w w1.drew := (f1.mono fun k hk e => HH.out.1.nd (e ▸ hk)).drew
      exact f2.setCell hkp' (by decide) hBpb (HH.out.1.rnd pb rfl) _
  have hpg : g ≠ pb := fun e => hpb e.symm
  obtain ⟨uo, zo, rfl⟩ := hoi
  clear cj h1 f1 r1 hkp hl' hk0 hk1 hold HH HX hA
  go_wp2
  go_region
  all_goals go_wp2
  all_goals (refine bodyPost_ret (results_none rfl _ _ _) rfl ?_; exact ⟨rfl, HQ.out⟩)
end Go.Proofs.YthfpmhnnjjikcabGreatDoor

/- build: grow: the lengths of what is gathered, with a piece. -/
namespace Go.Proofs.YthfpmhnnjjikcabGreatDoor
open Go Go.RowKit Go.Lib
set_option linter.unusedVariables false
theorem SbE.drewN {w : World} {B g : Nat} {c0 c1 c2 c3 : Value} {l : List UInt8} (h : SbE w B g c0 c1 c2 c3 l) (n : Nat) : SbE (w.drewN n) B g c0 c1 c2 c3 l := by obtain ⟨a1, a2, a3⟩ := h; exact ⟨a1, a2, a3.lo, a3.at_, a3.buf, a3.adr⟩
set_option maxHeartbeats 2000000 in
set_option maxRecDepth 100000 in
theorem grow1_o2 {B g : Nat} {c2 c3 : Value} {l : List UInt8} (sv : Value) (t : ByteArray) (n : Int) (hn : 0 ≤ n ∧ n ≤ 1099511627776) (b r : Int) (w : World) (h : SbE w B g (.int .i64 b) (.int .i64 r) c2 c3 l) (hb : 0 ≤ b ∧ b ≤ 1099511627776) (hr : 0 ≤ r ∧ r ≤ 1099511627776) (hB : B ≤ w.heap.size) (e0 : Value) (gL : ∀ W, Below w.heap.size w W → W.cell? ⟨11, 0, none⟩ = some e0) (hob : b ≤ 1099511627776) (hov : 1099511627776 < r + n) :
    Calls Tryz.prog 109 #[.pointer (some ⟨g, 0, none⟩), .iface 184 (.agg #[sv, .string t, .int .i64 n])] w fun e w' => e = .returned e0 ∧ Below w.heap.size w w' := by
  obtain ⟨q0, q1, _, _, _, hBg, _, _⟩ := h.cells
  obtain ⟨hb1, hb2⟩ := hb
  obtain ⟨hr1, hr2⟩ := hr
  obtain ⟨hn1, hn2⟩ := hn
  have hd1 : decide (1099511627776 < b) = false := decide_eq_false (by omega)
  have hd2 : decide (1099511627776 < r + n) = true := decide_eq_true hov
  have GL : Hid _ := gL
  clear h hB gL
  have a0 := as_i_r
  have a1 := as_i_d
  go_enter Tryz.func109, Tryz.ntmps109
  go_wp2
  go_quiet (fail)
  go_wp2_with fail
  refine (ilen_any _ _ _ _).mono ?_; rintro r0 w0 ⟨rfl, hb0'⟩
  have hB0 : Below w.heap.size w w0 := (below_drewN (Below.refl _ _) _).trans hb0'
  clear hb0'
  have gL := GL.out _ hB0
  go_wp2
  go_ret
  exact ⟨rfl, hB0⟩
set_option maxHeartbeats 2000000 in
set_option maxRecDepth 100000 in
theorem grow1_ok {B g : Nat} {c2 c3 : Value} {l : List UInt8} (sv : Value) (t : ByteArray) (n : Int) (hn : 0 ≤ n ∧ n ≤ 1099511627776) (b r : Int) (w : World) (h : SbE w B g (.int .i64 b) (.int .i64 r) c2 c3 l) (hb : 0 ≤ b ∧ b ≤ 1099511627776) (hr : 0 ≤ r ∧ r ≤ 1099511627776) (hB : B ≤ w.heap.size) (hob : b ≤ 1099511627776) (hor : r + n ≤ 1099511627776) :
    Calls Tryz.prog 109 #[.pointer (some ⟨g, 0, none⟩), .iface 184 (.agg #[sv, .string t, .int .i64 n])] w fun e w' => e = .returned .nilIface ∧ SbE w' B g (.int .i64 (b)) (.int .i64 (r + n)) c2 c3 l ∧ FrB B (fun k => k ≠ g) w w' := by
  obtain ⟨q0, q1, _, _, _, hBg, _, _⟩ := h.cells
  obtain ⟨hb1, hb2⟩ := hb
  obtain ⟨hr1, hr2⟩ := hr
  obtain ⟨hn1, hn2⟩ := hn
  have hd1 : decide (1099511627776 < b) = false := decide_eq_false (by omega)
  have hd2 : decide (1099511627776 < r + n) = false := decide_eq_false (by omega)
  have HB : Hid (B ≤ w.heap.size) := hB
  have H0 : Hid (SbE w B g (.int .i64 b) (.int .i64 r) c2 c3 l) := h
  clear h hB
  have a0 := as_i_r
  have a1 := as_i_d
  go_enter Tryz.func109, Tryz.ntmps109
  go_wp2
  go_quiet (fail)
  go_wp2_with fail
  refine (ilen_any _ _ _ _).mono ?_; rintro r0 w0 ⟨rfl, hb0'⟩
  have hB0 : Below w.heap.size w w0 := (below_drewN (Below.refl _ _) _).trans hb0'
  clear hb0'
  have h1 := H0.out.below hB0
  obtain ⟨m0, m1, _, _, mf, _, cs, hk⟩ := h1.cells
  have mf0 := mf 0
  have mf1 := mf 1
  have HS : Hid (SbE ((w0.setCell ⟨g, 0, none⟩ (.int .i64 (b))).setCell ⟨g, 1, none⟩ (.int .i64 (r + n))) B g (.int .i64 (b)) (.int .i64 (r + n)) c2 c3 l ∧ FrB B (fun k => k ≠ g) w ((w0.setCell ⟨g, 0, none⟩ (.int .i64 (b))).setCell ⟨g, 1, none⟩ (.int .i64 (r + n)))) := by
    have s0 := h1.set0 (.int .i64 (b))
    obtain ⟨_, _, _, _, _, _, cs', hk'⟩ := s0.cells
    exact ⟨s0.set1 _, ((FrB.of_below hB0 HB.out).setCell hk (by decide) hBg (by simp) _).setCell hk' (by decide) hBg (by simp) _⟩
  clear h1 hk mf H0 HB
  go_wp2
  go_ret
  exact ⟨rfl, HS.out⟩
set_option maxHeartbeats 2000000 in
set_option maxRecDepth 100000 in
theorem grow2_o2 {B g : Nat} {c2 c3 : Value} {l : List UInt8} (sv : Value) (t : ByteArray) (V : Value) (b r : Int) (w : World) (h : SbE w B g (.int .i64 b) (.int .i64 r) c2 c3 l) (hb : 0 ≤ b ∧ b ≤ 1099511627776) (hr : 0 ≤ r ∧ r ≤ 1099511627776) (hB : B ≤ w.heap.size) (e0 : Value) (gL : ∀ W, Below w.heap.size w W → W.cell? ⟨11, 0, none⟩ = some e0) (hob : b ≤ 1099511627776) (hov : 1099511627776 < r + 1) :
    Calls Tryz.prog 109 #[.pointer (some ⟨g, 0, none⟩), .iface 189 (.agg #[sv, .string t, V])] w fun e w' => e = .returned e0 ∧ Below w.heap.size w w' := by
  obtain ⟨q0, q1, _, _, _, hBg, _, _⟩ := h.cells
  obtain ⟨hb1, hb2⟩ := hb
  obtain ⟨hr1, hr2⟩ := hr
  have hd1 : decide (1099511627776 < b) = false := decide_eq_false (by omega)
  have hd2 : decide (1099511627776 < r + 1) = true := decide_eq_true hov
  have GL : Hid _ := gL
  clear h hB gL
  have a0 := as_e_r
  have a1 := as_e_d
  go_enter Tryz.func109, Tryz.ntmps109
  go_wp2
  go_quiet (fail)
  go_wp2_with fail
  refine (elen_any _ _ _ _).mono ?_; rintro r0 w0 ⟨rfl, hb0'⟩
  have hB0 : Below w.heap.size w w0 := (below_drewN (Below.refl _ _) _).trans hb0'
  clear hb0'
  have gL := GL.out _ hB0
  go_wp2
  go_ret
  exact ⟨rfl, hB0⟩
set_option maxHeartbeats 2000000 in
set_option maxRecDepth 100000 in
theorem grow2_ok {B g : Nat} {c2 c3 : Value} {l : List UInt8} (sv : Value) (t : ByteArray) (V : Value) (b r : Int) (w : World) (h : SbE w B g (.int .i64 b) (.int .i64 r) c2 c3 l) (hb : 0 ≤ b ∧ b ≤ 1099511627776) (hr : 0 ≤ r ∧ r ≤ 1099511627776) (hB : B ≤ w.heap.size) (hob : b ≤ 1099511627776) (hor : r + 1 ≤ 1099511627776) :
    Calls Tryz.prog 109 #[.pointer (some ⟨g, 0, none⟩), .iface 189 (.agg #[sv, .string t, V])] w fun e w' => e = .returned .nilIface ∧ SbE w' B g (.int .i64 (b)) (.int .i64 (r + 1)) c2 c3 l ∧ FrB B (fun k => k ≠ g) w w' := by
  obtain ⟨q0, q1, _, _, _, hBg, _, _⟩ := h.cells
  obtain ⟨hb1, hb2⟩ := hb
  obtain ⟨hr1, hr2⟩ := hr
  have hd1 : decide (1099511627776 < b) = false := decide_eq_false (by omega)
  have hd2 : decide (1099511627776 < r + 1) = false := decide_eq_false (by omega)
  have HB : Hid (B ≤ w.heap.size) := hB
  have H0 : Hid (SbE w B g (.int .i64 b) (.int .i64 r) c2 c3 l) := h
  clear h hB
  have a0 := as_e_r
  have a1 := as_e_d
  go_enter Tryz.func109, Tryz.ntmps109
  go_wp2
  go_quiet (fail)
  go_wp2_with fail
  refine (elen_any _ _ _ _).mono ?_; rintro r0 w0 ⟨rfl, hb0'⟩
  have hB0 : Below w.heap.size w w0 := (below_drewN (Below.refl _ _) _).trans hb0'
  clear hb0'
  have h1 := H0.out.below hB0
  obtain ⟨m0, m1, _, _, mf, _, cs, hk⟩ := h1.cells
  have mf0 := mf 0
  have mf1 := mf 1
  have HS : Hid (SbE ((w0.setCell ⟨g, 0, none⟩ (.int .i64 (b))).setCell ⟨g, 1, none⟩ (.int .i64 (r + 1))) B g (.int .i64 (b)) (.int .i64 (r + 1)) c2 c3 l ∧ FrB B (fun k => k ≠ g) w ((w0.setCell ⟨g, 0, none⟩ (.int .i64 (b))).setCell ⟨g, 1, none⟩ (.int .i64 (r + 1)))) := by
    have s0 := h1.set0 (.int .i64 (b))
    obtain ⟨_, _, _, _, _, _, cs', hk'⟩ := s0.cells
    exact ⟨s0.set1 _, ((FrB.of_below hB0 HB.out).setCell hk (by decide) hBg (by simp) _).setCell hk' (by decide) hBg (by simp) _⟩
  clear h1 hk mf H0 HB
  go_wp2
  go_ret
  exact ⟨rfl, HS.out⟩
set_option maxHeartbeats 2000000 in
set_option maxRecDepth 100000 in
theorem grow3_o1 {B g : Nat} {c2 c3 : Value} {l : List UInt8} (sv : Value) (c : Int) (hc : 0 ≤ c ∧ c ≤ 1099511627776) (b r : Int) (w : World) (h : SbE w B g (.int .i64 b) (.int .i64 r) c2 c3 l) (hb : 0 ≤ b ∧ b ≤ 1099511627776) (hr : 0 ≤ r ∧ r ≤ 1099511627776) (hB : B ≤ w.heap.size) (e0 : Value) (gL : ∀ W, Below w.heap.size w W → W.cell? ⟨11, 0, none⟩ = some e0) (hov : 1099511627776 < b + c) :
    Calls Tryz.prog 109 #[.pointer (some ⟨g, 0, none⟩), .iface 115 (.agg #[sv, .int .i64 c])] w fun e w' => e = .returned e0 ∧ Below w.heap.size w w' := by
  obtain ⟨q0, q1, _, _, _, hBg, _, _⟩ := h.cells
  obtain ⟨hb1, hb2⟩ := hb
  obtain ⟨hr1, hr2⟩ := hr
  obtain ⟨hc1, hc2⟩ := hc
  have hd1 : decide (1099511627776 < b + c) = true := decide_eq_true hov
  have GL : Hid _ := gL
  clear h hB gL
  have a0 := as_r_r
  go_enter Tryz.func109, Tryz.ntmps109
  go_wp2
  go_quiet (fail)
  go_wp2_with fail
  refine (rlen_any _ _ _).mono ?_; rintro r0 w0 ⟨rfl, hb0'⟩
  have hB0 : Below w.heap.size w w0 := (below_drewN (Below.refl _ _) _).trans hb0'
  clear hb0'
  go_wp2_with fail
  refine (rlen_any _ _ _).mono ?_; rintro r1 w1 ⟨rfl, hb1'⟩
  have hB1 : Below w.heap.size w w1 := hB0.trans (hb1'.mono hB0.size)
  clear hb1' hB0
  have gL := GL.out _ hB1
  go_wp2
  go_ret
  exact ⟨rfl, hB1⟩
set_option maxHeartbeats 2000000 in
set_option maxRecDepth 100000 in
theorem grow3_o2 {B g : Nat} {c2 c3 : Value} {l : List UInt8} (sv : Value) (c : Int) (hc : 0 ≤ c ∧ c ≤ 1099511627776) (b r : Int) (w : World) (h : SbE w B g (.int .i64 b) (.int .i64 r) c2 c3 l) (hb : 0 ≤ b ∧ b ≤ 1099511627776) (hr : 0 ≤ r ∧ r ≤ 1099511627776) (hB : B ≤ w.heap.size) (e0 : Value) (gL : ∀ W, Below w.heap.size w W → W.cell? ⟨11, 0, none⟩ = some e0) (hob : b + c ≤ 1099511627776) (hov : 1099511627776 < r + c) :
    Calls Tryz.prog 109 #[.pointer (some ⟨g, 0, none⟩), .iface 115 (.agg #[sv, .int .i64 c])] w fun e w' => e = .returned e0 ∧ Below w.heap.size w w' := by
  obtain ⟨q0, q1, _, _, _, hBg, _, _⟩ := h.cells
  obtain ⟨hb1, hb2⟩ := hb
  obtain ⟨hr1, hr2⟩ := hr
  obtain ⟨hc1, hc2⟩ := hc
  have hd1 : decide (1099511627776 < b + c) = false := decide_eq_false (by omega)
  have hd2 : decide (1099511627776 < r + c) = true := decide_eq_true hov
  have GL : Hid _ := gL
  clear h hB gL
  have a0 := as_r_r
  go_enter Tryz.func109, Tryz.ntmps109
  go_wp2
  go_quiet (fail)
  go_wp2_with fail
  refine (rlen_any _ _ _).mono ?_; rintro r0 w0 ⟨rfl, hb0'⟩
  have hB0 : Below w.heap.size w w0 := (below_drewN (Below.refl _ _) _).trans hb0'
  clear hb0'
  go_wp2_with fail
  refine (rlen_any _ _ _).mono ?_; rintro r1 w1 ⟨rfl, hb1'⟩
  have hB1 : Below w.heap.size w w1 := hB0.trans (hb1'.mono hB0.size)
  clear hb1' hB0
  have gL := GL.out _ hB1
  go_wp2
  go_ret
  exact ⟨rfl, hB1⟩
set_option maxHeartbeats 2000000 in
set_option maxRecDepth 100000 in
theorem grow3_ok {B g : Nat} {c2 c3 : Value} {l : List UInt8} (sv : Value) (c : Int) (hc : 0 ≤ c ∧ c ≤ 1099511627776) (b r : Int) (w : World) (h : SbE w B g (.int .i64 b) (.int .i64 r) c2 c3 l) (hb : 0 ≤ b ∧ b ≤ 1099511627776) (hr : 0 ≤ r ∧ r ≤ 1099511627776) (hB : B ≤ w.heap.size) (hob : b + c ≤ 1099511627776) (hor : r + c ≤ 1099511627776) :
    Calls Tryz.prog 109 #[.pointer (some ⟨g, 0, none⟩), .iface 115 (.agg #[sv, .int .i64 c])] w fun e w' => e = .returned .nilIface ∧ SbE w' B g (.int .i64 (b + c)) (.int .i64 (r + c)) c2 c3 l ∧ FrB B (fun k => k ≠ g) w w' := by
  obtain ⟨q0, q1, _, _, _, hBg, _, _⟩ := h.cells
  obtain ⟨hb1, hb2⟩ := hb
  obtain ⟨hr1, hr2⟩ := hr
  obtain ⟨hc1, hc2⟩ := hc
  have hd1 : decide (1099511627776 < b + c) = false := decide_eq_false (by omega)
  have hd2 : decide (1099511627776 < r + c) = false := decide_eq_false (by omega)
  have HB : Hid (B ≤ w.heap.size) := hB
  have H0 : Hid (SbE w B g (.int .i64 b) (.int .i64 r) c2 c3 l) := h
  clear h hB
  have a0 := as_r_r
  go_enter Tryz.func109, Tryz.ntmps109
  go_wp2
  go_quiet (fail)
  go_wp2_with fail
  refine (rlen_any _ _ _).mono ?_; rintro r0 w0 ⟨rfl, hb0'⟩
  have hB0 : Below w.heap.size w w0 := (below_drewN (Below.refl _ _) _).trans hb0'
  clear hb0'
  go_wp2_with fail
  refine (rlen_any _ _ _).mono ?_; rintro r1 w1 ⟨rfl, hb1'⟩
  have hB1 : Below w.heap.size w w1 := hB0.trans (hb1'.mono hB0.size)
  clear hb1' hB0
  have h1 := H0.out.below hB1
  obtain ⟨m0, m1, _, _, mf, _, cs, hk⟩ := h1.cells
  have mf0 := mf 0
  have mf1 := mf 1
  have HS : Hid (SbE ((w1.setCell ⟨g, 0, none⟩ (.int .i64 (b + c))).setCell ⟨g, 1, none⟩ (.int .i64 (r + c))) B g (.int .i64 (b + c)) (.int .i64 (r + c)) c2 c3 l ∧ FrB B (fun k => k ≠ g) w ((w1.setCell ⟨g, 0, none⟩ (.int .i64 (b + c))).setCell ⟨g, 1, none⟩ (.int .i64 (r + c)))) := by
    have s0 := h1.set0 (.int .i64 (b + c))
    obtain ⟨_, _, _, _, _, _, cs', hk'⟩ := s0.cells
    exact ⟨s0.set1 _, ((FrB.of_below hB1 HB.out).setCell hk (by decide) hBg (by simp) _).setCell hk' (by decide) hBg (by simp) _⟩
  clear h1 hk mf H0 HB
  go_wp2
  go_ret
  exact ⟨rfl, HS.out⟩
set_option maxHeartbeats 2000000 in
set_option maxRecDepth 100000 in
theorem grow4_o1 {B g : Nat} {c2 c3 : Value} {l : List UInt8} (c : Int) (hc : 0 ≤ c ∧ c ≤ 1099511627776) (b r : Int) (w : World) (h : SbE w B g (.int .i64 b) (.int .i64 r) c2 c3 l) (hb : 0 ≤ b ∧ b ≤ 1099511627776) (hr : 0 ≤ r ∧ r ≤ 1099511627776) (hB : B ≤ w.heap.size) (e0 : Value) (gL : ∀ W, Below w.heap.size w W → W.cell? ⟨11, 0, none⟩ = some e0) (hov : 1099511627776 < b + c) :
    Calls Tryz.prog 109 #[.pointer (some ⟨g, 0, none⟩), .iface 111 (.agg #[.int .i64 c])] w fun e w' => e = .returned e0 ∧ Below w.heap.size w w' := by
  obtain ⟨q0, q1, _, _, _, hBg, _, _⟩ := h.cells
  obtain ⟨hb1, hb2⟩ := hb
  obtain ⟨hr1, hr2⟩ := hr
  obtain ⟨hc1, hc2⟩ := hc
  have hd1 : decide (1099511627776 < b + c) = true := decide_eq_true hov
  have GL : Hid _ := gL
  clear h hB gL
  have a0 := as_d_r
  have a1 := as_d_d
  go_enter Tryz.func109, Tryz.ntmps109
  go_wp2
  go_quiet (fail)
  go_wp2_with fail
  refine (dlen_any _ _).mono ?_; rintro r0 w0 ⟨rfl, hb0'⟩
  have hB0 : Below w.heap.size w w0 := (below_drewN (Below.refl _ _) _).trans hb0'
  clear hb0'
  have gL := GL.out _ hB0
  go_wp2
  go_ret
  exact ⟨rfl, hB0⟩
set_option maxHeartbeats 2000000 in
set_option maxRecDepth 100000 in
theorem grow4_ok {B g : Nat} {c2 c3 : Value} {l : List UInt8} (c : Int) (hc : 0 ≤ c ∧ c ≤ 1099511627776) (b r : Int) (w : World) (h : SbE w B g (.int .i64 b) (.int .i64 r) c2 c3 l) (hb : 0 ≤ b ∧ b ≤ 1099511627776) (hr : 0 ≤ r ∧ r ≤ 1099511627776) (hB : B ≤ w.heap.size) (hob : b + c ≤ 1099511627776) (hor : r ≤ 1099511627776) :
    Calls Tryz.prog 109 #[.pointer (some ⟨g, 0, none⟩), .iface 111 (.agg #[.int .i64 c])] w fun e w' => e = .returned .nilIface ∧ SbE w' B g (.int .i64 (b + c)) (.int .i64 (r)) c2 c3 l ∧ FrB B (fun k => k ≠ g) w w' := by
  obtain ⟨q0, q1, _, _, _, hBg, _, _⟩ := h.cells
  obtain ⟨hb1, hb2⟩ := hb
  obtain ⟨hr1, hr2⟩ := hr
  obtain ⟨hc1, hc2⟩ := hc
  have hd1 : decide (1099511627776 < b + c) = false := decide_eq_false (by omega)
  have hd2 : decide (1099511627776 < r) = false := decide_eq_false (by omega)
  have HB : Hid (B ≤ w.heap.size) := hB
  have H0 : Hid (SbE w B g (.int .i64 b) (.int .i64 r) c2 c3 l) := h
  clear h hB
  have a0 := as_d_r
  have a1 := as_d_d
  go_enter Tryz.func109, Tryz.ntmps109
  go_wp2
  go_quiet (fail)
  go_wp2_with fail
  refine (dlen_any _ _).mono ?_; rintro r0 w0 ⟨rfl, hb0'⟩
  have hB0 : Below w.heap.size w w0 := (below_drewN (Below.refl _ _) _).trans hb0'
  clear hb0'
  have h1 := H0.out.below hB0
  obtain ⟨m0, m1, _, _, mf, _, cs, hk⟩ := h1.cells
  have mf0 := mf 0
  have mf1 := mf 1
  have HS : Hid (SbE ((w0.setCell ⟨g, 0, none⟩ (.int .i64 (b + c))).setCell ⟨g, 1, none⟩ (.int .i64 (r))) B g (.int .i64 (b + c)) (.int .i64 (r)) c2 c3 l ∧ FrB B (fun k => k ≠ g) w ((w0.setCell ⟨g, 0, none⟩ (.int .i64 (b + c))).setCell ⟨g, 1, none⟩ (.int .i64 (r)))) := by
    have s0 := h1.set0 (.int .i64 (b + c))
    obtain ⟨_, _, _, _, _, _, cs', hk'⟩ := s0.cells
    exact ⟨s0.set1 _, ((FrB.of_below hB0 HB.out).setCell hk (by decide) hBg (by simp) _).setCell hk' (by decide) hBg (by simp) _⟩
  clear h1 hk mf H0 HB
  go_wp2
  go_ret
  exact ⟨rfl, HS.out⟩
end Go.Proofs.YthfpmhnnjjikcabGreatDoor

/- build: add, settle, gather: what the builder has behind them. -/
namespace Go.Proofs.YthfpmhnnjjikcabGreatDoor
open Go Go.RowKit Go.Lib
set_option linter.unusedVariables false
/-- What is known of the builder's pieces. -/
structure OkP (P : List Op5) : Prop where
  wel : ∀ x ∈ P, Wel x
  n : ∀ x ∈ P, x.A.length ≤ 2097152
  len : P.length ≤ 4194304
  txt : txtS P ≤ 8388608
  cnt : ∀ x ∈ P, x.c ≤ 2199023255552
theorem last_slice {w : World} {B : Nat} {s : Value} {A : List A2} (h : OwnA w B s A) : ∃ p n c, s = .slice p n c := by obtain ⟨p, c, e⟩ := own_slice h; exact ⟨_, _, _, e⟩
theorem add_any {B g : Nat} {D : Nat → Prop} {b r : Int} {P : List Op5} {d : Int} (o : Op5) (sv : Value) (w : World) (h : BldE w B D g b r P d) (hsv : OwnA w B sv o.A) (hD : ∀ k, D k → k < w.heap.size) (hP : OkP P) (ho : Wel o) (hA : o.A.length ≤ 2097152) (ht : o.t.size ≤ 8388608) (hc : o.c ≤ 2199023255552) (h4 : ∀ F x, P = F ++ [x] → x.k ≠ 4 ∨ o.k ≠ 4) :
    Calls Tryz.prog 137 #[.pointer (some ⟨g, 0, none⟩), pieceQ o sv] w fun e w' => e = .returned (.tuple #[]) ∧ BldE w' B D g b r (pushL P o) d ∧ FrB B D w w' := by
  obtain ⟨pv, PL, l, h⟩ := h
  have hB : B ≤ w.heap.size := by have := h.sb.lt; have := h.sb.cells.2.2.2.2.2.1; omega
  rcases List.eq_nil_or_concat P with rfl | ⟨F, x, rfl⟩
  · rw [push_nil]
    have hz : PL = [] := List.eq_nil_of_length_eq_zero (by have := forall2_len h.pie; simpa using this)
    subst hz
    obtain ⟨p, c, e⟩ := own_slice h.row
    have e' : pv = .slice p 0 c := e
    exact add_app o sv w h hsv hD (by simp) (join_nil _ w (e' ▸ h.sb))
  · rw [List.concat_eq_append] at h hP h4 ⊢
    have hpie := h.pie
    obtain ⟨FL, s, ePL, hFL, hs⟩ := pie_last hpie
    have hlF : F.length ≤ 4194304 := by have := hP.len; rw [List.length_append] at this; simp at this; omega
    have hlFL : FL.length ≤ 4194304 := by rw [forall2_len hFL]; exact hlF
    have hrow : w.ownsRow B 102 1 pv (FL ++ [pieceQ x s]).length (FL ++ [pieceQ x s]) := by rw [← ePL]; exact h.row
    have hx := hP.wel x (List.mem_append_right _ (List.mem_singleton.2 rfl))
    have hxA := hP.n x (List.mem_append_right _ (List.mem_singleton.2 rfl))
    have hxc := hP.cnt x (List.mem_append_right _ (List.mem_singleton.2 rfl))
    have hxt : x.t.size ≤ 8388608 := Nat.le_trans (txtS_mem (List.mem_append_right _ (List.mem_singleton.2 rfl))) hP.txt
    have hxk := h4 F x rfl
    have kx := hx.kinds
    have ko := ho.kinds
    have rs := own_rowA hs
    have rv := own_rowA hsv
    have sl := last_slice hs
    have htxt : l = [] ∨ (x.k = 1 ∧ l = x.t.data.toList) := by
      rcases h.txt with e | ⟨F', x', e1, e2, e3⟩
      · exact Or.inl e
      · obtain ⟨_, e4⟩ := List.append_inj' e1 rfl
        obtain rfl := (List.cons.inj e4).1
        exact Or.inr ⟨e2, e3⟩
    by_cases hj : joinsB x o
    · rw [push_yes hj]
      obtain ⟨j1, j2, j3⟩ := hj
      rcases j2 with j2 | j2
      · have ix := (hx.resolve_right (by rintro (⟨a, _⟩ | ⟨a, _⟩) <;> omega)).1
        have io := (ho.resolve_right (by rintro (⟨a, _⟩ | ⟨a, _⟩) <;> omega)).1
        have hl1 : l = [] ∨ l = x.t.data.toList := htxt.imp id (·.2)
        refine add_set o s sv FL w h ePL hFL hs hD hlF (x' := jnO x o) rfl ((join_yes11 x o s sv FL w h.sb hrow hlFL (by omega) j2 j3 rs rv hxA hA hl1 ix io (by omega) hB).mono ?_)
        rintro e w' ⟨e1, e2, e3⟩
        exact ⟨e1, ⟨_, e2, Or.inr ⟨by show x.k = 1; omega, rfl⟩⟩, e3⟩
      · have cx := hx.count (by omega)
        have co := ho.count (by omega)
        have hl0 : l = [] := htxt.resolve_right (by rintro ⟨a, _⟩; omega)
        refine add_set o s sv FL w h ePL hFL hs hD hlF (x' := jnO x o) rfl ((join_yes33 x o s sv FL w h.sb hrow hlFL (by omega) j2 j3 rs rv hxA hA ⟨by omega, by omega, by omega⟩).mono ?_)
        rintro e w' ⟨e1, e2⟩
        exact ⟨e1, ⟨l, h.sb.below e2, Or.inl hl0⟩, FrB.of_below e2 hB⟩
    · rw [push_no hj hxk ko]
      refine add_app o sv w h hsv hD hP.len ?_
      rcases kx with kx | kx | kx | kx <;> rcases ko with ko | ko | ko | ko
      · exact join_no11 x o s sv FL w h.sb hrow hlFL kx ko (fun e => hj ⟨by omega, by omega, e⟩) rs rv hxA hA
      · exact join_no12 x o s sv FL w h.sb hrow hlFL sl kx ko
      · exact join_no13 x o s sv FL w h.sb hrow hlFL sl kx ko
      · exact join_no14 x o s sv FL w h.sb hrow hlFL sl kx ko
      · exact join_no21 x o s sv FL w h.sb hrow hlFL sl kx ko
      · exact join_no22 x o s sv FL w h.sb hrow hlFL sl kx ko
      · exact join_no23 x o s sv FL w h.sb hrow hlFL sl kx ko
      · exact join_no24 x o s sv FL w h.sb hrow hlFL sl kx ko
      · exact join_no31 x o s sv FL w h.sb hrow hlFL sl kx ko
      · exact join_no32 x o s sv FL w h.sb hrow hlFL sl kx ko
      · exact join_no33 x o s sv FL w h.sb hrow hlFL kx ko (fun e => hj ⟨by omega, by omega, e⟩) rs rv hxA hA
      · exact join_no34 x o s sv FL w h.sb hrow hlFL sl kx ko
      · exact join_no41 x o s sv FL w h.sb hrow hlFL sl kx ko
      · exact join_no42 x o s sv FL w h.sb hrow hlFL sl kx ko
      · exact join_no43 x o s sv FL w h.sb hrow hlFL sl kx ko
      · exact absurd hxk (by omega)

theorem BldE.set3 {w : World} {B g : Nat} {D : Nat → Prop} {b r : Int} {P : List Op5} {d : Int} (h : BldE w B D g b r P d) (d' : Int) : BldE (w.setCell ⟨g, 3, none⟩ (.int .i64 d')) B D g b r P d' ∧ FrB B D w (w.setCell ⟨g, 3, none⟩ (.int .i64 d')) := by
  obtain ⟨pv, PL, l, h⟩ := h
  obtain ⟨_, _, _, _, _, hBg, cs, hk⟩ := h.sb.cells
  have hf := (FrB.refl B D w).setCell hk (by decide) hBg h.nd (j := 3) (.int .i64 d')
  exact ⟨⟨pv, PL, l, h.sb.set3 _, h.nd, ownsRow_setCell_other h.row (own_ne h.row hk) _, h.rnd, h.pie.keep hf.keepA, h.txt⟩, hf⟩
theorem BldE.below {w w' : World} {B g : Nat} {D : Nat → Prop} {b r : Int} {P : List Op5} {d : Int} (h : BldE w B D g b r P d) (hb : Below w.heap.size w w') : BldE w' B D g b r P d := by
  obtain ⟨pv, PL, l, h⟩ := h
  exact ⟨pv, PL, l, h.below hb⟩
theorem BldE.drew {w : World} {B g : Nat} {D : Nat → Prop} {b r : Int} {P : List Op5} {d : Int} (h : BldE w B D g b r P d) : BldE w.drew B D g b r P d := by
  obtain ⟨pv, PL, l, h⟩ := h
  obtain ⟨a1, a2, a3⟩ := h.sb
  exact ⟨pv, PL, l, ⟨a1, a2, a3.lo, a3.at_, a3.buf, a3.adr⟩, h.nd, h.row, h.rnd, h.pie, h.txt⟩
theorem BldE.anti {w : World} {B g : Nat} {D D' : Nat → Prop} {b r : Int} {P : List Op5} {d : Int} (h : BldE w B D g b r P d) (hd : ∀ k, D' k → D k) : BldE w B D' g b r P d := by
  obtain ⟨pv, PL, l, h⟩ := h
  exact ⟨pv, PL, l, h.sb, fun e => h.nd (hd _ e), h.row, fun k hk e => h.rnd k hk (hd _ e), h.pie, h.txt⟩
/-- A block that is none of the builder's may be kept beside. -/
theorem BldE.plus {w : World} {B g : Nat} {D : Nat → Prop} {b r : Int} {P : List Op5} {d : Int} (h : BldE w B D g b r P d) {k : Nat} {cs : Array Value} {T : TypeId} {fz : Nat × Nat} (hk : w.heap[k]? = some (.cells cs T fz)) (h1 : T ≠ 134) (h2 : T ≠ 102) : BldE w B (fun i => D i ∨ i = k) g b r P d := by
  obtain ⟨pv, PL, l, h⟩ := h
  refine ⟨pv, PL, l, h.sb, ?_, h.row, fun j hj => ?_, h.pie, h.txt⟩
  · rintro (e | e)
    · exact h.nd e
    · obtain ⟨_, _, _, _, _, _, cs', hg⟩ := h.sb.cells
      rw [← e, hg] at hk
      simp only [Option.some.injEq, Obj.cells.injEq] at hk
      exact h1 hk.2.1.symm
  · rintro (e | e)
    · exact h.rnd j hj e
    · obtain ⟨_, cur, h3⟩ := owns_block h.row j hj
      rw [← e, h3] at hk
      simp only [Option.some.injEq, Obj.cells.injEq] at hk
      exact h2 hk.2.1.symm
theorem BldE.lo {w : World} {B g : Nat} {D : Nat → Prop} {b r : Int} {P : List Op5} {d : Int} (h : BldE w B D g b r P d) : B ≤ g ∧ g < w.heap.size := by
  obtain ⟨pv, PL, l, h⟩ := h
  exact ⟨h.sb.cells.2.2.2.2.2.1, h.sb.lt⟩
theorem BldE.c3 {w : World} {B g : Nat} {D : Nat → Prop} {b r : Int} {P : List Op5} {d : Int} (h : BldE w B D g b r P d) : w.cell? ⟨g, 3, none⟩ = some (.int .i64 d) ∧ w.frozen? ⟨g, 3, none⟩ = false := by
  obtain ⟨pv, PL, l, h⟩ := h
  exact ⟨h.sb.cells.2.2.2.1, h.sb.cells.2.2.2.2.1 3⟩

set_option maxHeartbeats 2000000 in
set_option maxRecDepth 100000 in
theorem settle_any {B g : Nat} {D : Nat → Prop} {b r : Int} {P : List Op5} {d : Int} (w : World) (h : BldE w B D g b r P d) (hD : ∀ k, D k → k < w.heap.size) (hP : OkP P) (h4 : ∀ F x, P = F ++ [x] → x.k ≠ 4) (hd : 0 ≤ d ∧ d ≤ 2199023255552) :
    Calls Tryz.prog 136 #[.pointer (some ⟨g, 0, none⟩)] w fun e w' => e = .returned (.tuple #[]) ∧ BldE w' B D g b r (setB (P, d)) 0 ∧ FrB B D w w' := by
  obtain ⟨q3, qf⟩ := h.c3
  obtain ⟨hd1, hd2⟩ := hd
  by_cases h0 : 0 < d
  · have hset : setB (P, d) = pushL P (delO d) := by
      rw [push_del h4]
      unfold setB
      exact if_pos h0
    rw [hset]
    have ca := add_any (delO d) (.slice none 0 0) w h (World.ownsRow_nil _ _ _ _) hD hP (delO_wel (by omega)) (by show (0 : Nat) ≤ _; omega) (by show (0 : Nat) ≤ _; omega) hd2 (fun F x e => Or.inl (h4 F x e))
    rw [pieceQ_4 (show (delO d).k = 4 from rfl)] at ca
    have ca' : Calls Tryz.prog 137 #[.pointer (some ⟨g, 0, none⟩), .iface 111 (.agg #[.int .i64 d])] w fun e w' => e = .returned (.tuple #[]) ∧ BldE w' B D g b r (pushL P (delO d)) d ∧ FrB B D w w' := ca
    clear h hD hP h4 hset ca
    go_enter Tryz.func136, Tryz.ntmps136
    go_wp2_with fail
    refine ca'.mono ?_; rintro e w1 ⟨rfl, h1, f1⟩
    obtain ⟨m3, mf3⟩ := h1.c3
    have HS : Hid _ := h1.set3 0
    have F1 : Hid (FrB B D w w1) := f1
    clear ca' h1 f1
    go_wp2
    go_end0
    exact ⟨rfl, HS.out.1, F1.out.trans HS.out.2⟩
  · obtain rfl : d = 0 := by omega
    have hset : setB (P, 0) = P := by
      unfold setB
      exact if_neg h0
    rw [hset]
    have H1 : Hid _ := h
    clear h hD hP h4 hset
    go_enter Tryz.func136, Tryz.ntmps136
    go_wp2
    go_end0
    exact ⟨rfl, H1.out, FrB.refl _ _ _⟩

set_option maxHeartbeats 2000000 in
set_option maxRecDepth 100000 in
theorem gather_any {B g : Nat} {D : Nat → Prop} {b r : Int} {s : List Op5 × Int} (o : Op5) (sv : Value) (w : World) (h : BldE w B D g b r s.1 s.2) (hsv : OwnA w B sv o.A) (hD : ∀ k, D k → k < w.heap.size) (hP : OkP s.1) (hPs : OkP (setB s)) (ho : Wel o) (hA : o.A.length ≤ 2097152) (ht : o.t.size ≤ 8388608) (hc : o.c ≤ 1099511627776) (hst : BSt s) (hd : s.2 ≤ 1099511627776) :
    Calls Tryz.prog 110 #[.pointer (some ⟨g, 0, none⟩), pieceQ o sv] w fun e w' => e = .returned (.tuple #[]) ∧ BldE w' B D g b r (stB s o).1 (stB s o).2 ∧ FrB B D w w' := by
  obtain ⟨P, d⟩ := s
  have hB : B ≤ w.heap.size := by have := h.lo; omega
  have hd0 : 0 ≤ d := hst.gone
  have h4 := fun F x e => hst.chn.last F x e
  simp only at hd h hP h4
  have hslice := last_slice hsv
  rcases ho.kinds with hk | hk | hk | hk
  · have cA := add_any o sv w h hsv hD hP ho hA ht (by omega) (fun F x e => Or.inl (h4 F x e))
    have e1 : stB (P, d) o = (pushL P o, d) := by unfold stB; rw [if_neg (by omega), if_neg (by omega)]
    rw [e1]
    simp only
    obtain ⟨n, hn⟩ : ∃ n : Int, ((scs o.t.data.toList).length : Int) = n := ⟨_, rfl⟩
    rw [pieceQ_1 hk, hn] at cA ⊢
    have a1 := as_i_d
    have a2 := as_i_r
    clear h hsv hD hP hPs ho hst h4 hn e1
    go_enter Tryz.func110, Tryz.ntmps110
    go_wp2_with fail
    refine cA.mono ?_; rintro e w1 ⟨rfl, h1, f1⟩
    have H1 : Hid (BldE w1 B D g b r (pushL P o) d ∧ FrB B D w w1) := ⟨h1, f1⟩
    clear h1 f1 cA
    go_wp2
    go_end0
    exact ⟨rfl, H1.out⟩
  · have cA := add_any o sv w h hsv hD hP ho hA ht (by omega) (fun F x e => Or.inl (h4 F x e))
    have e1 : stB (P, d) o = (pushL P o, d) := by unfold stB; rw [if_neg (by omega), if_neg (by omega)]
    rw [e1]
    simp only
    obtain ⟨V, hV⟩ : ∃ V, valP o.v = V := ⟨_, rfl⟩
    rw [pieceQ_2 hk, hV] at cA ⊢
    have a1 := as_e_d
    have a2 := as_e_r
    clear h hsv hD hP hPs ho hst h4 hV e1
    go_enter Tryz.func110, Tryz.ntmps110
    go_wp2_with fail
    refine cA.mono ?_; rintro e w1 ⟨rfl, h1, f1⟩
    have H1 : Hid (BldE w1 B D g b r (pushL P o) d ∧ FrB B D w w1) := ⟨h1, f1⟩
    clear h1 f1 cA
    go_wp2
    go_end0
    exact ⟨rfl, H1.out⟩
  · have e1 : stB (P, d) o = (pushL (setB (P, d)) o, 0) := by unfold stB; rw [if_neg (by omega), if_pos hk]
    rw [e1]
    simp only
    obtain ⟨p1, l1, q1, rfl⟩ := hslice
    have b0 := (Below.refl w.heap.size w).alloc (Nat.le_refl _) (.cells #[.slice p1 l1 q1, .int .i64 o.c] 115)
    have hD0 : ∀ k, D k → k < (w.alloc (.cells #[.slice p1 l1 q1, .int .i64 o.c] 115)).heap.size := fun k hk => Nat.lt_of_lt_of_le (hD k hk) b0.size
    have cS := settle_any (D := fun i => D i ∨ i = w.heap.size) (w.alloc (.cells #[.slice p1 l1 q1, .int .i64 o.c] 115)) ((h.below b0).plus (heap_alloc_new w _) (by decide) (by decide)) (fun k hk => hk.elim (hD0 k) (fun e => by rw [e, World.size_alloc]; omega)) hP h4 ⟨hd0, by omega⟩
    have hne : g < w.heap.size := h.lo.2
    have CA : Hid (∀ W, BldE W B D g b r (setB (P, d)) 0 → OwnA W B (.slice p1 l1 q1) o.A → (∀ k, D k → k < W.heap.size) → Calls Tryz.prog 137 #[.pointer (some ⟨g, 0, none⟩), .iface 115 (.agg #[.slice p1 l1 q1, .int .i64 o.c])] W fun e w' => e = .returned (.tuple #[]) ∧ BldE w' B D g b r (pushL (setB (P, d)) o) 0 ∧ FrB B D W w') := fun W h1 h2 h3 => by
      have := add_any o (.slice p1 l1 q1) W h1 h2 h3 hPs ho hA ht (by omega) (fun _ _ _ => Or.inr (by omega))
      rw [pieceQ_3 hk] at this
      exact this
    rw [pieceQ_3 hk]
    have HS : Hid (OwnA (w.alloc (.cells #[.slice p1 l1 q1, .int .i64 o.c] 115)) B (.slice p1 l1 q1) o.A ∧ (∀ k, D k → k < (w.alloc (.cells #[.slice p1 l1 q1, .int .i64 o.c] 115)).heap.size) ∧ FrB B D w (w.alloc (.cells #[.slice p1 l1 q1, .int .i64 o.c] 115)) ∧ (w.alloc (.cells #[.slice p1 l1 q1, .int .i64 o.c] 115)).heap[w.heap.size]? = some (.cells #[.slice p1 l1 q1, .int .i64 o.c] 115 (0, 0)) ∧ g < w.heap.size) := ⟨owns_below hsv b0, hD0, FrB.of_below b0 hB, heap_alloc_new w _, hne⟩
    have a1 := as_r_d
    have a2 := as_r_r
    obtain ⟨c, hc'⟩ : ∃ c, o.c = c := ⟨_, rfl⟩
    rw [hc'] at cS CA HS ⊢
    clear h hsv hD hP hPs ho hst h4 e1 b0 hD0 hne hc hc'
    go_enter Tryz.func110, Tryz.ntmps110
    go_wp2_with fail
    refine cS.mono ?_; rintro e w1 ⟨rfl, h1, f1⟩
    obtain ⟨x1, x2, x3, x4, x5⟩ := HS.out
    have m1 : w1.heap[w.heap.size]? = some (.cells #[.slice p1 l1 q1, .int .i64 c] 115 (0, 0)) := f1.kept w.heap.size _ x4 (Or.inr rfl) (fun c fz e => by simp only [Obj.cells.injEq] at e; exact absurd e.2.1 (by decide))
    have d0 : w1.cell? ⟨w.heap.size, 0, none⟩ = some (.slice p1 l1 q1) := by rw [cell_of_heap m1]; rfl
    have d1 : w1.cell? ⟨w.heap.size, 1, none⟩ = some (.int .i64 c) := by rw [cell_of_heap m1]; rfl
    have cA := CA.out w1 (h1.anti fun k hk => Or.inl hk) (keepA_own x1 f1.keepA) (fun k hk => Nat.lt_of_lt_of_le (x2 k hk) f1.below.size)
    have F1 : Hid (FrB B D w w1) := x3.trans (f1.mono fun k hk => Or.inl hk)
    clear cS h1 f1 m1 x1 x2 x3 x4 x5 HS CA
    go_wp2_with fail
    refine cA.mono ?_; rintro e w2 ⟨rfl, h2, f2⟩
    have H2 : Hid (BldE w2 B D g b r (pushL (setB (P, d)) o) 0 ∧ FrB B D w w2) := ⟨h2, F1.out.trans f2⟩
    clear cA h2 f2 F1
    go_wp2
    go_end0
    exact ⟨rfl, H2.out⟩
  · have e1 : stB (P, d) o = (P, d + o.c) := by unfold stB; rw [if_pos hk]
    rw [e1]
    simp only
    have hcc := ho.count (Or.inr hk)
    rw [pieceQ_4 hk]
    obtain ⟨c, hc'⟩ : ∃ c, o.c = c := ⟨_, rfl⟩
    rw [hc'] at hc hcc ⊢
    have b0 := (Below.refl w.heap.size w).alloc (Nat.le_refl _) (.cells #[.int .i64 c] 111)
    have h0 := h.below b0
    have F0 : FrB B D w (w.alloc (.cells #[.int .i64 c] 111)) := FrB.of_below b0 hB
    have HQ : Hid (BldE ((w.alloc (.cells #[.int .i64 c] 111)).setCell ⟨g, 3, none⟩ (.int .i64 (d + c))) B D g b r P (d + c) ∧ FrB B D w ((w.alloc (.cells #[.int .i64 c] 111)).setCell ⟨g, 3, none⟩ (.int .i64 (d + c)))) := ⟨(h0.set3 _).1, F0.trans (h0.set3 _).2⟩
    obtain ⟨q3, qf⟩ := h0.c3
    have hne : g ≠ w.heap.size := by have := h.lo.2; omega
    have hne' : w.heap.size ≠ g := fun e => hne e.symm
    have a1 := as_d_d
    clear h hsv hD hP hPs ho hst h4 e1 b0 h0 F0 hc' hslice
    go_enter Tryz.func110, Tryz.ntmps110
    go_wp2
    go_region
    all_goals (go_wp2; go_end0; exact ⟨rfl, HQ.out.1.drew, HQ.out.2.drew⟩)
end Go.Proofs.YthfpmhnnjjikcabGreatDoor

/- build: Push: one operation gathered, or refused. -/
namespace Go.Proofs.YthfpmhnnjjikcabGreatDoor
open Go Go.RowKit Go.Lib
set_option linter.unusedVariables false
/-- Operations that may be gathered, not too great. -/
structure OkE (E : List Op5) : Prop where
  good : ∀ o ∈ E, opE o = 0
  fit : ∀ o ∈ E, FitA o
  txt : txtS E ≤ 8388608
  len : E.length ≤ 4194304
  base : sumB E ≤ 1099511627776
  res : sumR E ≤ 1099511627776
theorem OkE.nil : OkE [] := ⟨fun o h => (by cases h), fun o h => (by cases h), by simp [txtS], by simp, by simp [sumB], by simp [sumR]⟩
theorem OkE.wel {E : List Op5} (h : OkE E) : ∀ o ∈ E, Wel o := fun o ho => wel_of (h.good o ho)
theorem baseU_append (U V : List U6) : baseU (U ++ V) = baseU U + baseU V := by unfold baseU; rw [List.countP_append]
theorem sum_push {P : List Op5} {o : Op5} {Q : Int → Prop} (h : Chn P Q) (ho : Wel o) (hP : ∀ k, Q k → k = 4 → o.k = 3 ∨ o.k = 4) : sumB (pushL P o) = sumB P + baseO o := by
  obtain ⟨p1, p2⟩ := push_chn h ho hP
  rw [sumB_units p1.wel, sumB_units h.wel, base_units ho, p2, baseU_append]
  omega
theorem sumB_append (E F : List Op5) : sumB (E ++ F) = sumB E + sumB F := by unfold sumB; rw [List.map_append, List.sum_append]
theorem sumR_append (E F : List Op5) : sumR (E ++ F) = sumR E + sumR F := by unfold sumR; rw [List.map_append, List.sum_append]
theorem sumB_one (o : Op5) : sumB [o] = baseO o := by simp [sumB]
theorem sumR_one (o : Op5) : sumR [o] = resO o := by simp [sumR]
theorem base_3 {o : Op5} (h : o.k = 3 ∨ o.k = 4) : baseO o = o.c := by unfold baseO len5; rw [if_pos h, if_neg (by omega)]
theorem base_1 {o : Op5} (h : o.k = 1 ∨ o.k = 2) : baseO o = 0 := by unfold baseO; rw [if_neg (by omega)]
theorem sum_st {s : List Op5 × Int} {o : Op5} (h : BSt s) (ho : Wel o) : sumB (stB s o).1 + (stB s o).2 = sumB s.1 + s.2 + baseO o := by
  unfold stB
  rcases ho.kinds with hk | hk | hk | hk
  · rw [if_neg (by omega), if_neg (by omega)]
    have := sum_push h.chn ho (fun k h4 e => absurd e h4)
    simp only; omega
  · rw [if_neg (by omega), if_neg (by omega)]
    have := sum_push h.chn ho (fun k h4 e => absurd e h4)
    simp only; omega
  · rw [if_neg (by omega), if_pos hk]
    have h1 := sum_push (setB_chn h).1 ho (fun k _ _ => Or.inl hk)
    have h2 : sumB (setB s) = sumB s.1 + s.2 := by
      unfold setB
      have := h.gone
      split
      · rw [sumB_append, sumB_one, base_3 (o := delO s.2) (Or.inr rfl)]; rfl
      · omega
    simp only; omega
  · rw [if_pos hk, base_3 (Or.inr hk)]
    simp only; omega
theorem sum_run : ∀ (E : List Op5) {s : List Op5 × Int}, BSt s → (∀ o ∈ E, Wel o) → sumB (E.foldl stB s).1 + (E.foldl stB s).2 = sumB s.1 + s.2 + sumB E
  | [], s, _, _ => by simp [sumB]
  | o :: r, s, h, hE => by
    have ho := hE o (List.mem_cons_self ..)
    have h1 := sum_run r (stB_st h ho) (fun x hx => hE x (List.mem_cons_of_mem _ hx))
    have h2 := sum_st h ho
    have h3 : sumB (o :: r) = baseO o + sumB r := by simp [sumB]
    show sumB (r.foldl stB (stB s o)).1 + (r.foldl stB (stB s o)).2 = _
    omega
theorem cnt_le {P : List Op5} (h : ∀ x ∈ P, Wel x) {x : Op5} (hx : x ∈ P) : x.c ≤ sumB P ∨ x.c = 0 := by
  rcases (h x hx).kinds with hk | hk | hk | hk
  · right
    exact ((h x hx).resolve_right (by rintro (⟨a, _⟩ | ⟨a, _⟩) <;> omega)).1.count
  · right
    exact ((h x hx).resolve_right (by rintro (⟨a, _⟩ | ⟨a, _⟩) <;> omega)).1.count
  · left; have := (mem_sums h hx).1; rw [base_3 (Or.inl hk)] at this; exact this
  · left; have := (mem_sums h hx).1; rw [base_3 (Or.inr hk)] at this; exact this
/-- What is known of what the builder has gathered. -/
theorem okE_run {E : List Op5} (h : OkE E) : BSt (bldR E) ∧ OkP (bldR E).1 ∧ OkP (setB (bldR E)) ∧ 0 ≤ (bldR E).2 ∧ (bldR E).2 ≤ 1099511627776 := by
  have hs : BSt (bldR E) := bldR_st BSt.nil h.wel
  have hz : BSz (bldR E) E.length (txtS E) := by
    have := bldR_sz E BSz.nil h.fit
    rw [Nat.zero_add, Nat.zero_add] at this
    exact this
  have hsum : sumB (bldR E).1 + (bldR E).2 = sumB E := by
    have := sum_run E BSt.nil h.wel
    have e : sumB (([], 0) : List Op5 × Int).1 + (([], 0) : List Op5 × Int).2 = 0 := by simp [sumB]
    rw [e] at this
    have e2 : bldR E = E.foldl stB ([], 0) := rfl
    rw [e2]; omega
  have hnn := (sums_nn hs.chn.wel).1
  have hb := h.base
  have h0 := hs.gone
  have h1 := hz.len
  have h2 := hz.txt
  have h3 := h.len
  have h4 := h.txt
  refine ⟨hs, ⟨hs.chn.wel, fun x hx => by have := (hz.fit x hx).n; omega, by omega, by omega, fun x hx => by have := cnt_le hs.chn.wel hx; omega⟩, ?_, h0, by omega⟩
  obtain ⟨a, b, c⟩ := hz.set
  have w := (setB_chn hs).1.wel
  have hsb : sumB (setB (bldR E)) = sumB E := by
    unfold setB
    split
    · rw [sumB_append, sumB_one, base_3 (o := delO (bldR E).2) (Or.inr rfl)]
      show sumB (bldR E).1 + (bldR E).2 = _
      exact hsum
    · omega
  exact ⟨w, fun x hx => by have := (a x hx).n; omega, by omega, by omega, fun x hx => by have := cnt_le w hx; omega⟩

/-- A builder in memory that has gathered these operations. -/
def Gath (w : World) (B : Nat) (D : Nat → Prop) (g : Nat) (E : List Op5) : Prop := BldE w B D g (sumB E) (sumR E) (bldR E).1 (bldR E).2
theorem BldE.sb {w : World} {B g : Nat} {D : Nat → Prop} {b r : Int} {P : List Op5} {d : Int} (h : BldE w B D g b r P d) : ∃ pv PL l, SbE w B g (.int .i64 b) (.int .i64 r) pv (.int .i64 d) l ∧ ¬ D g ∧ w.ownsRow B 102 1 pv PL.length PL ∧ (∀ k, pv.ownBlock = some k → ¬ D k) ∧ PieD w B PL P ∧ (l = [] ∨ ∃ F x, P = F ++ [x] ∧ x.k = 1 ∧ l = x.t.data.toList) := by
  obtain ⟨pv, PL, l, h⟩ := h
  exact ⟨pv, PL, l, h.sb, h.nd, h.row, h.rnd, h.pie, h.txt⟩
/-- The lengths grow, the pieces stand. -/
theorem bld_grow {w w' : World} {B g : Nat} {D : Nat → Prop} {b r b' r' : Int} {P : List Op5} {d : Int} {pv : Value} {PL : List Value} {l : List UInt8} (h : Bld w B D g b r P d pv PL l) (f : FrB B (fun k => k ≠ g) w w') (hs : SbE w' B g (.int .i64 b') (.int .i64 r') pv (.int .i64 d) l) : BldE w' B D g b' r' P d := by
  obtain ⟨_, _, _, _, _, _, cs, hk⟩ := h.sb.cells
  exact ⟨pv, PL, l, hs, h.nd, f.rowI h.row hk, h.rnd, h.pie.keep f.keepA, h.txt⟩
theorem res_1 {o : Op5} (h : o.k = 1) : resO o = ((scs o.t.data.toList).length : Int) := by unfold resO len5 lenO; rw [if_neg (by omega), if_pos (Or.inl h), if_pos h]
theorem res_2 {o : Op5} (h : o.k = 2) : resO o = 1 := by unfold resO len5 lenO; rw [if_neg (by omega), if_pos (Or.inr h), if_neg (by omega)]; rfl
theorem res_3 {o : Op5} (h : o.k = 3) : resO o = o.c := by unfold resO len5; rw [if_neg (by omega), if_neg (by omega)]
theorem res_4 {o : Op5} (h : o.k = 4) : resO o = 0 := by unfold resO; rw [if_pos h]
theorem grow_ok {B g : Nat} {c2 c3 : Value} {l : List UInt8} (o : Op5) (sv : Value) (b r : Int) (w : World) (hg : opE o = 0) (hf : Fit o) (h : SbE w B g (.int .i64 b) (.int .i64 r) c2 c3 l) (hb : 0 ≤ b ∧ b ≤ 1099511627776) (hr : 0 ≤ r ∧ r ≤ 1099511627776) (hB : B ≤ w.heap.size) (hob : b + baseO o ≤ 1099511627776) (hor : r + resO o ≤ 1099511627776) :
    Calls Tryz.prog 109 #[.pointer (some ⟨g, 0, none⟩), pieceQ o sv] w fun e w' => e = .returned .nilIface ∧ SbE w' B g (.int .i64 (b + baseO o)) (.int .i64 (r + resO o)) c2 c3 l ∧ FrB B (fun k => k ≠ g) w w' := by
  have hb1 := base_range hg hf
  have hr1 := res_range hg hf
  rcases kinds_of hg with hk | hk | hk | hk
  · rw [base_1 (Or.inl hk), Int.add_zero] at hob ⊢
    rw [res_1 hk] at hor hr1 ⊢
    rw [pieceQ_1 hk]
    exact grow1_ok sv o.t _ hr1 b r w h hb hr hB hob hor
  · rw [base_1 (Or.inr hk), Int.add_zero] at hob ⊢
    rw [res_2 hk] at hor hr1 ⊢
    rw [pieceQ_2 hk]
    exact grow2_ok sv o.t _ b r w h hb hr hB hob hor
  · rw [base_3 (Or.inl hk)] at hob hb1 ⊢
    rw [res_3 hk] at hor hr1 ⊢
    rw [pieceQ_3 hk]
    exact grow3_ok sv _ hb1 b r w h hb hr hB hob hor
  · rw [base_3 (Or.inr hk)] at hob hb1 ⊢
    rw [res_4 hk, Int.add_zero] at hor ⊢
    rw [pieceQ_4 hk]
    exact grow4_ok _ hb1 b r w h hb hr hB hob hor
theorem grow_no {B g : Nat} {c2 c3 : Value} {l : List UInt8} (o : Op5) (sv : Value) (b r : Int) (w : World) (hg : opE o = 0) (hf : Fit o) (h : SbE w B g (.int .i64 b) (.int .i64 r) c2 c3 l) (hb : 0 ≤ b ∧ b ≤ 1099511627776) (hr : 0 ≤ r ∧ r ≤ 1099511627776) (hB : B ≤ w.heap.size) (e0 : Value) (gL : ∀ W, Below w.heap.size w W → W.cell? ⟨11, 0, none⟩ = some e0) (hov : 1099511627776 < b + baseO o ∨ 1099511627776 < r + resO o) :
    Calls Tryz.prog 109 #[.pointer (some ⟨g, 0, none⟩), pieceQ o sv] w fun e w' => e = .returned e0 ∧ Below w.heap.size w w' := by
  have hb1 := base_range hg hf
  have hr1 := res_range hg hf
  rcases kinds_of hg with hk | hk | hk | hk
  · rw [base_1 (Or.inl hk), Int.add_zero] at hov
    rw [res_1 hk] at hov hr1
    rw [pieceQ_1 hk]
    exact grow1_o2 sv o.t _ hr1 b r w h hb hr hB e0 gL hb.2 (by omega)
  · rw [base_1 (Or.inr hk), Int.add_zero] at hov
    rw [res_2 hk] at hov hr1
    rw [pieceQ_2 hk]
    exact grow2_o2 sv o.t _ b r w h hb hr hB e0 gL hb.2 (by omega)
  · rw [base_3 (Or.inl hk)] at hov hb1
    rw [res_3 hk] at hov hr1
    rw [pieceQ_3 hk]
    by_cases h1 : 1099511627776 < b + o.c
    · exact grow3_o1 sv _ hb1 b r w h hb hr hB e0 gL h1
    · exact grow3_o2 sv _ hb1 b r w h hb hr hB e0 gL (by omega) (by omega)
  · rw [base_3 (Or.inr hk)] at hov hb1
    rw [res_4 hk, Int.add_zero] at hov
    rw [pieceQ_4 hk]
    exact grow4_o1 _ hb1 b r w h hb hr hB e0 gL (by omega)
end Go.Proofs.YthfpmhnnjjikcabGreatDoor

/- build: Push: one operation gathered, or refused. -/
namespace Go.Proofs.YthfpmhnnjjikcabGreatDoor
open Go Go.RowKit Go.Lib
set_option linter.unusedVariables false
theorem bad_one (o : Op5) : badP [o] = (0, opE o) := by
  by_cases h : opE o = 0
  · rw [h]; exact bad_none (by intro x hx; rw [List.mem_singleton.1 hx]; exact h)
  · exact bad_at (k := 0) rfl (by intro x hx; simp at hx) h
/-- A slice of one operation. -/
theorem re_one {w : World} {b : Nat} {o : Op5} {p : Option Addr} {l c : Nat} (h : OpAt w b 0 (o.k, o.t, o.v, o.c, (p, l, c))) (hR : RN w (.slice p l c) o.A) : ReO w (.slice (some ⟨b, 0, none⟩) 1 1) [o] :=
  ⟨[(o.k, o.t, o.v, o.c, (p, l, c))], ⟨some ⟨b, 0, none⟩, 1, rfl, Nat.le_refl _, fun h => (by cases h), fun j d hd => by
    cases j with
    | zero => simp only [List.getElem?_cons_zero, Option.some.injEq] at hd; subst hd; exact ⟨b, 0, rfl, by simpa using h⟩
    | succ j => simp at hd⟩, .cons ⟨rfl, rfl, rfl, rfl, hR⟩ .nil⟩
/-- Push's first call. -/
theorem push_of {I : List Nat} {a : Nat → Addr} (o : Op5) (p : Option Addr) (l c : Nat) (w : World) (hI : ∀ i ∈ IxO, i ∈ I) (hS : Std I a w) (hR : RN w (.slice p l c) o.A) (hF : Fit o) :
    Calls Tryz.prog 108 #[.slice (some ⟨w.heap.size + 1, 0, none⟩) 1 1] ((w.alloc (.cells (opC o (.slice p l c)) 74)).alloc (.cells (opC o (.slice p l c)) 74)) fun r w' => ∃ v', r = .returned (.tuple #[v', .int .i64 0, errOf a (opE o)]) ∧ (opE o = 0 → ∃ s ap cp, v' = .slice (some ⟨ap, 0, none⟩) 1 cp ∧ w'.cell? ⟨ap, 0, none⟩ = some (pieceQ o s) ∧ OwnA w' w.heap.size s o.A ∧ ∃ cs, w'.heap[ap]? = some (.cells cs 102 (0, 0)) ∧ w.heap.size ≤ ap) ∧ (opE o ≠ 0 → v' = .slice none 0 0) ∧ Below w.heap.size w w' := by
  have b0 : Below w.heap.size w (w.alloc (.cells (opC o (.slice p l c)) 74)) := (Below.refl _ _).alloc (Nat.le_refl _) _
  have b1 : Below w.heap.size w ((w.alloc (.cells (opC o (.slice p l c)) 74)).alloc (.cells (opC o (.slice p l c)) 74)) := b0.alloc b0.size _
  have hat : OpAt ((w.alloc (.cells (opC o (.slice p l c)) 74)).alloc (.cells (opC o (.slice p l c)) 74)) (w.heap.size + 1) 0 (o.k, o.t, o.v, o.c, (p, l, c)) := by
    refine ⟨?_, ?_, ?_, ?_, ?_, ?_, ?_⟩ <;> simp [opC]
  refine (of_any _ [o] _ hI (hS.below b1) (re_one hat (hR.below b1)) (by intro x hx; rw [List.mem_singleton.1 hx]; exact hF) (by simp)).mono ?_
  rintro r w' ⟨v', rfl, h1, h2, hb⟩
  have hbw : Below w.heap.size w w' := b1.trans (hb.mono b1.size)
  rw [bad_one] at h1 h2 ⊢
  refine ⟨v', rfl, fun h0 => ?_, h2, hbw⟩
  obtain ⟨P, hP, hD⟩ := h1 h0
  cases hD with
  | cons hx hr =>
    cases hr
    obtain ⟨s, rfl, hs⟩ := hx
    obtain ⟨ap, cp, x, e1, e2, e3, e4⟩ := own_cell hP 0 (by simp)
    have e3' : x = pieceQ o s := by simpa using e3.symm
    rw [e3'] at e4
    have ob := owns_block hP ap (by rw [e1]; rfl)
    obtain ⟨_, cs, hcs⟩ := ob
    exact ⟨s, ap, cp, e1, e4, own_weaken hs b1.size, cs, hcs, Nat.le_trans b1.size e2⟩
set_option maxHeartbeats 2000000 in
set_option maxRecDepth 100000 in
theorem pushB_no {I : List Nat} {a : Nat → Addr} (g : Nat) (o : Op5) (p : Option Addr) (l c : Nat) (w : World) (hI : ∀ i ∈ IxO, i ∈ I) (hS : Std I a w) (hR : RN w (.slice p l c) o.A) (hF : Fit o) (e : Nat) (he : opE o = e + 1) :
    Calls Tryz.prog 73 #[.pointer (some ⟨g, 0, none⟩), opV o (.slice p l c)] w fun r w' => r = .returned (errV a e) ∧ Below w.heap.size w w' := by
  have c1 := push_of o p l c w hI hS hR hF
  rw [he, errOf_succ] at c1
  obtain ⟨k, t, ⟨x, n, u⟩, cc, A⟩ := o
  simp only [opC] at c1
  clear hS hR hF he
  go_enter Tryz.func73, Tryz.ntmps73
  go_wp2_with fail
  refine c1.mono ?_; rintro r w2 ⟨v', rfl, _, hv, hb2⟩
  obtain rfl := hv (by omega)
  clear c1 hv
  go_wp2
  go_ret
  exact ⟨rfl, hb2⟩
set_option maxHeartbeats 2000000 in
set_option maxRecDepth 100000 in
theorem pushB_long {I : List Nat} {a : Nat → Addr} {B g : Nat} {D : Nat → Prop} {E : List Op5} (o : Op5) (p : Option Addr) (l c : Nat) (w : World) (hI : ∀ i ∈ IxO, i ∈ I) (hS : Std I a w) (hR : RN w (.slice p l c) o.A) (hF : Fit o) (hg : opE o = 0) (h : Gath w B D g E) (hE : OkE E) (hov : 1099511627776 < sumB E + baseO o ∨ 1099511627776 < sumR E + resO o) :
    Calls Tryz.prog 73 #[.pointer (some ⟨g, 0, none⟩), opV o (.slice p l c)] w fun r w' => r = .returned (errV a 10) ∧ Below w.heap.size w w' := by
  have c1 := push_of o p l c w hI hS hR hF
  rw [hg, errOf_zero] at c1
  have hnn := sums_nn hE.wel
  have hB : B ≤ w.heap.size := by have := BldE.lo h; omega
  have CG : Hid (∀ W s, Below w.heap.size w W → Calls Tryz.prog 109 #[.pointer (some ⟨g, 0, none⟩), pieceQ o s] W fun e w' => e = .returned (errV a 10) ∧ Below W.heap.size W w') := fun W s hW => by
    obtain ⟨pv, PL, l, hsb, _⟩ := BldE.sb (BldE.below h hW)
    exact grow_no o s _ _ W hg hF hsb ⟨hnn.1, hE.base⟩ ⟨hnn.2, hE.res⟩ (Nat.le_trans hB hW.size) _ (fun W' hW' => (hS.below (hW.trans (hW'.mono hW.size))).er.cell 10 (hI 10 (by simp))) hov
  have hq := pieceQ_if o
  obtain ⟨PQ, hPQ⟩ : ∃ f : Value → Value, pieceQ o = f := ⟨_, rfl⟩
  have c1' : Calls Tryz.prog 108 #[.slice (some ⟨w.heap.size + 1, 0, none⟩) 1 1] ((w.alloc (.cells (opC o (.slice p l c)) 74)).alloc (.cells (opC o (.slice p l c)) 74)) fun r w' => ∃ v', r = .returned (.tuple #[v', .int .i64 0, .nilIface]) ∧ (∃ s ap cp, v' = .slice (some ⟨ap, 0, none⟩) 1 cp ∧ w'.cell? ⟨ap, 0, none⟩ = some (PQ s)) ∧ Below w.heap.size w w' := c1.mono (by
    rintro r w' ⟨v', e1, e2, _, e4⟩
    obtain ⟨s, ap, cp, f1, f2, _⟩ := e2 rfl
    exact ⟨v', e1, ⟨s, ap, cp, f1, hPQ ▸ f2⟩, e4⟩)
  have hq' : ∀ s, ∃ u x, PQ s = .iface u x := fun s => hPQ ▸ hq s
  have CG' : Hid (∀ W s, Below w.heap.size w W → Calls Tryz.prog 109 #[.pointer (some ⟨g, 0, none⟩), PQ s] W fun e w' => e = .returned (errV a 10) ∧ Below W.heap.size W w') := hPQ ▸ CG
  obtain ⟨k, t, ⟨x, n, u⟩, cc, A⟩ := o
  simp only [opC] at c1'
  clear hS hR hF hg h hE hov hnn hB c1 CG hq hPQ
  go_enter Tryz.func73, Tryz.ntmps73
  go_wp2_with fail
  refine c1'.mono ?_; rintro r w2 ⟨v', rfl, ⟨s, ap, cp, rfl, hc⟩, hb2⟩
  obtain ⟨uu, xx, hux⟩ := hq' s
  have cg := CG'.out w2.drew s hb2.drew
  rw [hux] at hc cg
  have hc' : w2.drew.cell? ⟨ap, 0, none⟩ = some (.iface uu xx) := hc
  clear c1' CG' hq' hux
  go_wp2_with fail
  go_region_held3 (fun w' => w'.cell? ⟨ap, 0, none⟩ = some (.iface uu xx) ∧ Below w.heap.size w w')
    (exact ⟨by first | (with_reducible assumption), by first | (with_reducible assumption) | exact hb2.drew⟩)
    (first | (go_at_call 109; refine cg.mono ?_; rintro r w5 ⟨rfl, hb5⟩; have hc5 := (hb5.cell (lt_of_cell hc')).trans hc'; have b5 : Below w.heap.size w w5 := hb2.drew.trans (hb5.mono hb2.size)))
  go_wp2
  go_ret
  exact ⟨rfl, b5⟩
set_option maxHeartbeats 4000000 in
set_option maxRecDepth 100000 in
theorem pushB_ok {I : List Nat} {a : Nat → Addr} {B g : Nat} {D : Nat → Prop} {E : List Op5} (o : Op5) (p : Option Addr) (l c : Nat) (w : World) (hI : ∀ i ∈ IxO, i ∈ I) (hS : Std I a w) (hR : RN w (.slice p l c) o.A) (hF : Fit o) (h : Gath w B D g E) (hE : OkE (E ++ [o])) (hD : ∀ k, D k → k < w.heap.size) :
    Calls Tryz.prog 73 #[.pointer (some ⟨g, 0, none⟩), opV o (.slice p l c)] w fun r w' => r = .returned .nilIface ∧ Gath w' B D g (E ++ [o]) ∧ FrB B D w w' := by
  have hg : opE o = 0 := hE.good o (List.mem_append_right _ (List.mem_singleton.2 rfl))
  have hE0 : OkE E := by
    have h1 := hE.txt
    have h2 := hE.len
    have h3 := hE.base
    have h4 := hE.res
    have w1 := base_range hg hF
    have w2 := res_range hg hF
    rw [txtS_append] at h1
    rw [List.length_append] at h2
    rw [sumB_append, sumB_one] at h3
    rw [sumR_append, sumR_one] at h4
    exact ⟨fun x hx => hE.good x (List.mem_append_left _ hx), fun x hx => hE.fit x (List.mem_append_left _ hx), by omega, by omega, by omega, by omega⟩
  have c1 := push_of o p l c w hI hS hR hF
  rw [hg, errOf_zero] at c1
  have hnn := sums_nn hE0.wel
  have hB : B ≤ w.heap.size := by have := BldE.lo h; omega
  have hob : sumB E + baseO o ≤ 1099511627776 := by have := hE.base; rw [sumB_append, sumB_one] at this; exact this
  have hor : sumR E + resO o ≤ 1099511627776 := by have := hE.res; rw [sumR_append, sumR_one] at this; exact this
  have hwo := wel_of hg
  have hco : o.c ≤ 1099511627776 := by
    rcases hwo.kinds with hk | hk | hk | hk
    · have := (hwo.resolve_right (by rintro (⟨a, _⟩ | ⟨a, _⟩) <;> omega)).1.count; omega
    · have := (hwo.resolve_right (by rintro (⟨a, _⟩ | ⟨a, _⟩) <;> omega)).1.count; omega
    · have := base_3 (o := o) (Or.inl hk); omega
    · have := base_3 (o := o) (Or.inr hk); omega
  obtain ⟨r1, r2, r3, r4, r5⟩ := okE_run hE0
  -- grow, from a world that stands as w did
  have CG : Hid (∀ W s ap cs, Below w.heap.size w W → w.heap.size ≤ ap → W.heap[ap]? = some (.cells cs 102 (0, 0)) → OwnA W w.heap.size s o.A → Calls Tryz.prog 109 #[.pointer (some ⟨g, 0, none⟩), pieceQ o s] W fun e w' => e = .returned .nilIface ∧ (BldE w' B D g (sumB (E ++ [o])) (sumR (E ++ [o])) (bldR E).1 (bldR E).2 ∧ OwnA w' B s o.A ∧ FrB B D w w' ∧ w.heap.size ≤ w'.heap.size) ∧ w'.heap[ap]? = W.heap[ap]?) := fun W s ap cs hW hap hcs hs => by
    obtain ⟨pv, PL, l, hb⟩ := BldE.below h hW
    rw [sumB_append, sumB_one, sumR_append, sumR_one]
    refine (grow_ok o s _ _ W hg hF hb.sb ⟨hnn.1, hE0.base⟩ ⟨hnn.2, hE0.res⟩ (Nat.le_trans hB hW.size) hob hor).mono ?_
    rintro e w' ⟨rfl, e2, e3⟩
    refine ⟨rfl, ⟨bld_grow hb e3 e2, keepA_own (own_weaken hs hB) e3.keepA, (FrB.of_below hW hB).trans (e3.mono fun k hk e => hb.nd (e ▸ hk)), Nat.le_trans hW.size e3.below.size⟩, ?_⟩
    have hgl := BldE.lo h
    rw [hcs]
    exact e3.kept ap _ hcs (by omega) (fun c fz e => by simp only [Obj.cells.injEq] at e; exact absurd e.2.1 (by decide))
  have CA : Hid (∀ W s, BldE W B D g (sumB (E ++ [o])) (sumR (E ++ [o])) (bldR E).1 (bldR E).2 → OwnA W B s o.A → FrB B D w W → w.heap.size ≤ W.heap.size → Calls Tryz.prog 110 #[.pointer (some ⟨g, 0, none⟩), pieceQ o s] W fun e w' => e = .returned (.tuple #[]) ∧ Gath w' B D g (E ++ [o]) ∧ FrB B D w w') := fun W s h1 h2 h3 h4 => by
    refine (gather_any (s := bldR E) o s W h1 h2 (fun k hk => Nat.lt_of_lt_of_le (hD k hk) h4) r2 r3 hwo (by have := hF.n; omega) hF.t hco r1 r5).mono ?_
    rintro e w' ⟨rfl, e2, e3⟩
    refine ⟨rfl, ?_, h3.trans e3⟩
    unfold Gath
    rw [bldR_snoc]
    exact e2
  have hq := pieceQ_if o
  obtain ⟨PQ, hPQ⟩ : ∃ f : Value → Value, pieceQ o = f := ⟨_, rfl⟩
  rw [hPQ] at CG CA c1 hq
  have hR1 : RowA w (.slice p l c) o.A := hR.row
  obtain ⟨KK, hKK⟩ : ∃ K : Value → World → Prop, (fun s w' => BldE w' B D g (sumB (E ++ [o])) (sumR (E ++ [o])) (bldR E).1 (bldR E).2 ∧ OwnA w' B s o.A ∧ FrB B D w w' ∧ w.heap.size ≤ w'.heap.size) = K := ⟨_, rfl⟩
  have CG' : Hid (∀ W s ap cs, Below w.heap.size w W → w.heap.size ≤ ap → W.heap[ap]? = some (.cells cs 102 (0, 0)) → OwnA W w.heap.size s o.A → Calls Tryz.prog 109 #[.pointer (some ⟨g, 0, none⟩), PQ s] W fun e w' => e = .returned .nilIface ∧ KK s w' ∧ w'.heap[ap]? = W.heap[ap]?) := by rw [← hKK]; exact CG
  have CA' : Hid (∀ W s, KK s W → Calls Tryz.prog 110 #[.pointer (some ⟨g, 0, none⟩), PQ s] W fun e w' => e = .returned (.tuple #[]) ∧ Gath w' B D g (E ++ [o]) ∧ FrB B D w w') := fun W s h => by rw [← hKK] at h; exact CA.out W s h.1 h.2.1 h.2.2.1 h.2.2.2
  obtain ⟨AA, hAA⟩ : ∃ A, o.A = A := ⟨_, rfl⟩
  obtain ⟨EE, hEE⟩ : ∃ X, E ++ [o] = X := ⟨_, rfl⟩
  rw [hEE] at CA' ⊢
  rw [hAA] at CG' c1
  obtain ⟨k, t, ⟨x, n, u⟩, cc, A⟩ := o
  simp only [opC] at c1
  clear hS hR hF hg h hE hE0 hnn hB hob hor hwo hco r1 r2 r3 r4 r5 CG CA hPQ hR1 hKK hAA hEE hD
  go_enter Tryz.func73, Tryz.ntmps73
  go_wp2_with fail
  refine c1.mono ?_; rintro r w2 ⟨v', rfl, hv, _, hb2⟩
  obtain ⟨s, ap, cp, rfl, hc, hs, cs, hcs, hap⟩ := hv (by first | trivial | rfl)
  obtain ⟨uu, xx, hux⟩ := hq s
  have cg := CG'.out w2.drew s ap cs hb2.drew hap hcs hs
  have CA2 : Hid (∀ W, KK s W → Calls Tryz.prog 110 #[.pointer (some ⟨g, 0, none⟩), .iface uu xx] W fun e w' => e = .returned (.tuple #[]) ∧ Gath w' B D g EE ∧ FrB B D w w') := fun W hW => by have := CA'.out W s hW; rw [hux] at this; exact this
  rw [hux] at hc cg
  have hc' : w2.drew.cell? ⟨ap, 0, none⟩ = some (.iface uu xx) := hc
  clear c1 CG' CA' hq hux hv hcs hs
  go_wp2_with fail
  go_region_held3 (fun w' => w'.cell? ⟨ap, 0, none⟩ = some (.iface uu xx) ∧ (KK s w' ∨ w' = w2.drew))
    (first | exact ⟨by with_reducible assumption, Or.inl (by with_reducible assumption)⟩ | exact ⟨by with_reducible assumption, Or.inr rfl⟩)
    (first | (go_at_call 109; refine cg.mono ?_; rintro r w5 ⟨rfl, hk5, he5⟩; have hc5 := (World.cell?_of_block (a := ⟨ap, 0, none⟩) he5).trans hc'))
  have ca := CA2.out w5 hk5
  clear cg hk5 CA2 he5
  go_wp2_with fail
  refine ca.mono ?_; rintro r w6 ⟨rfl, h6, f6⟩
  have H6 : Hid (Gath w6 B D g EE ∧ FrB B D w w6) := ⟨h6, f6⟩
  clear ca h6 f6
  go_wp2
  go_ret
  exact ⟨rfl, H6.out⟩
end Go.Proofs.YthfpmhnnjjikcabGreatDoor

/- build: Delta and New: what a builder answers. -/
namespace Go.Proofs.YthfpmhnnjjikcabGreatDoor
open Go Go.RowKit Go.Lib
set_option linter.unusedVariables false
theorem pie_one {w : World} {B : Nat} {PL : List Value} {P : List Op5} (h : PieD w B PL P) : ∀ u ∈ PL, u.oneCell' = true := fun u hu => by
  obtain ⟨k, hk⟩ := List.getElem?_of_mem hu
  obtain ⟨e, s, _, rfl, _⟩ := oneI h hk
  obtain ⟨t, x, e⟩ := pieceQ_if e s
  rw [e]; rfl
/-- append(own, a row of pieces ...). -/
theorem wpList_append_rowI {w : World} {ops : Array Oper} {rest : List Oper} {o : Oper} {a : Act} {Q : Exit → Act → World → Prop} (hgd : o.guard = none) (s x : Operand)
    (ho : o.op = .call { callee := .builtin .append, args := #[s, x], argTypes := #[116, 116] })
    (base : Nat) (v : Value) (P : List Value) (hs : a.eval s = v) (hown : OwnI w base v P)
    (b n c : Nat) (M : List Value) (B : Nat) (hx : a.eval x = .slice (some ⟨b, 0, none⟩) n c) (hM : w.ownsRow B 102 1 (.slice (some ⟨b, 0, none⟩) n c) n M) (h1 : ∀ u ∈ M, u.oneCell' = true)
    (h63 : P.length + M.length ≤ 8388608) (hbase : base ≤ w.heap.size)
    (h : ∀ v' w', OwnI w' base v' (P ++ M) → w.grownBy w' v.ownBlock → wpList Tryz.prog ops Q rest (a.put o.dst v') w') : wpList Tryz.prog ops Q (o :: rest) a w := by
  obtain ⟨i, z, hi, hz, hz1, hz2, hz3⟩ := infoPi
  have hn : M.length = n := by simpa using hM.1
  exact wpList_append_own _ hgd s x _ ho base 102 i z 1 16 Tryz.underlying116 hi hz hz1 hz2 hz3 (by decide) v P.length P hs hown ⟨b, 0, none⟩ n c M hx (by omega) (fun j y hj => hM.cells (g := b) rfl j y hj) h1 (by unfold maxLen; omega) (by omega) hbase (fun v' w' h1 h2 _ => h v' w' (by show w'.ownsRow _ _ _ _ _ _; rw [List.length_append, hn]; exact h1) h2)
set_option maxHeartbeats 2000000 in
set_option maxRecDepth 100000 in
theorem clonePi_any (v : Value) (PL : List Value) (B : Nat) (w : World) (hv : OwnI w B v PL) (h1 : ∀ u ∈ PL, u.oneCell' = true) (hl : PL.length ≤ 8388608) :
    Calls Tryz.prog 77 #[v] w fun e w' => ∃ v', e = .returned v' ∧ OwnI w' w.heap.size v' PL ∧ Below w.heap.size w w' := by
  have q0 : ∀ (w : World) (a : Option Addr) (n c n' c' : Nat), (binOp .eql 116 (.slice a n c) (.slice none n' c')).run Tryz.prog w = .ok (.bool a.isNone) w := fun w a n c n' c' => Lib.run_eql_slice_nil w _ _ a n c n' c' Tryz.underlying116
  rcases hv.2 with ⟨rfl, h0⟩ | ⟨g, cap, cur, rfl, h2, h3, h4, h5, h6, h7⟩
  · have hz : PL = [] := List.eq_nil_of_length_eq_zero h0
    subst hz
    clear hv
    go_enter Tryz.func77, Tryz.ntmps77
    go_wp2
    go_ret
    exact ⟨_, rfl, World.ownsRow_nil _ _ _ _, Below.refl _ _⟩
  · have ba : Below w.heap.size w (w.alloc (.cells #[] 102)) := (Below.refl _ _).alloc (Nat.le_refl _) _
    have o0 : OwnI (w.alloc (.cells #[] 102)) w.heap.size (.slice (some ⟨w.heap.size, 0, none⟩) 0 0) [] :=
      ⟨rfl, Or.inr ⟨w.heap.size, 0, #[], rfl, Nat.le_refl _, heap_alloc_new w _, Nat.le_refl _, Nat.zero_le _, rfl, rfl⟩⟩
    have hM : Hid (OwnI (w.alloc (.cells #[] 102)) B (.slice (some ⟨g, 0, none⟩) PL.length cap) PL) := owns_below hv ba
    have hO : Hid (∀ u ∈ PL, u.oneCell' = true) := h1
    have hge : Hid (∀ j, (Value.slice (some ⟨w.heap.size, 0, none⟩) 0 0).ownBlock = some j → w.heap.size ≤ j) := fun j hj => (owns_block o0 j hj).1
    have hl0 : ([] : List Value).length + PL.length ≤ 8388608 := by simpa using hl
    clear hv h2 h3 h4 h5 h6 h7 h1
    go_enter Tryz.func77, Tryz.ntmps77
    go_wp2_with (at_builtin; refine wpList_append_rowI rfl (.tmp 5) (.tmp 6) rfl w.heap.size (.slice (some ⟨w.heap.size, 0, none⟩) 0 0) [] rfl o0 g PL.length cap PL B rfl hM.out hO.out hl0 ba.size ?_; intro v8 w8 own8 gr8; have b8 : Below w.heap.size w w8 := ba.grown gr8 ba.size (fun j hj => hge.out j hj); have HO8 : Hid (OwnI w8 w.heap.size v8 ([] ++ PL)) := own8; clear own8 gr8 o0)
    go_ret
    exact ⟨_, rfl, by have := HO8.out; rwa [List.nil_append] at this, b8⟩
set_option maxHeartbeats 1000000 in
theorem plainN_any (w : World) : Calls Tryz.prog 78 #[.nilIface] w fun r w' => r = .returned (.bool false) ∧ Below w.heap.size w w' := by
  have a2 : ∀ w : World, (Instr.typeAssert .nilIface 102 115 true).run Tryz.prog w = .ok (.tuple #[.agg #[.slice none 0 0, .int .i64 0], .bool false]) w := fun w => by kernel_rfl
  go_enter Tryz.func78, Tryz.ntmps78
  go_wp2
  go_ret
  exact ⟨rfl, by go_grown⟩
set_option maxHeartbeats 1000000 in
theorem plainB_any (o : Op5) (p : Option Addr) (l c : Nat) (w : World) (hl : l = o.A.length) (hk : o.k = 1 ∨ o.k = 2 ∨ o.k = 3 ∨ o.k = 4) :
    Calls Tryz.prog 78 #[pieceQ o (.slice p l c)] w fun r w' => r = .returned (.bool (plainR o)) ∧ Below w.heap.size w w' := by
  rcases hk with h | h | h | h
  · have hp : plainR o = false := by unfold plainR; rw [h]; rfl
    rw [pieceQ_1 h, hp]
    obtain ⟨n, hn⟩ : ∃ n : Int, ((scs o.t.data.toList).length : Int) = n := ⟨_, rfl⟩
    rw [hn]
    clear hp h hl hn
    have a1 := as_i_r
    go_enter Tryz.func78, Tryz.ntmps78
    go_wp2
    go_ret
    exact ⟨rfl, by go_grown⟩
  · have hp : plainR o = false := by unfold plainR; rw [h]; rfl
    rw [pieceQ_2 h, hp]
    obtain ⟨V, hV⟩ : ∃ V, valP o.v = V := ⟨_, rfl⟩
    rw [hV]
    clear hp h hl hV
    have a1 := as_e_r
    go_enter Tryz.func78, Tryz.ntmps78
    go_wp2
    go_ret
    exact ⟨rfl, by go_grown⟩
  · have hp : plainR o = decide (l = 0) := by
      unfold plainR
      rw [h, hl]
      cases o.A <;> simp
    rw [pieceQ_3 h, hp]
    have hz : ((l : Int) == 0) = decide (l = 0) := by rw [Bool.eq_iff_iff]; simp
    clear hp h hl
    have a1 := as_r_r
    go_enter Tryz.func78, Tryz.ntmps78
    go_wp2
    go_ret
    exact ⟨rfl, by go_grown⟩
  · have hp : plainR o = false := by unfold plainR; rw [h]; rfl
    rw [pieceQ_4 h, hp]
    clear hp h hl
    have a1 := as_d_r
    go_enter Tryz.func78, Tryz.ntmps78
    go_wp2
    go_ret
    exact ⟨rfl, by go_grown⟩

/-- A delta in memory. -/
def DelV (w : World) (B1 B2 : Nat) (v : Value) (E : List Op5) : Prop := ∃ q pv PL, v = .pointer (some ⟨q, 0, none⟩) ∧ B1 ≤ q ∧ w.heap[q]? = some (.cells #[pv] 118 (0, 0)) ∧ OwnI w B1 pv PL ∧ PieD w B2 PL E
theorem DelV.below {w w' : World} {B1 B2 : Nat} {v : Value} {E : List Op5} (h : DelV w B1 B2 v E) (b : Below w.heap.size w w') : DelV w' B1 B2 v E := by
  obtain ⟨q, pv, PL, h1, h2, h3, h4, h5⟩ := h
  exact ⟨q, pv, PL, h1, h2, (b.block q (Array.getElem?_eq_some_iff.1 h3).1).trans h3, owns_below h4 b, h5.below b⟩
theorem own_front {w : World} {B g n cap : Nat} {FL : List Value} {x : Value} (h : w.ownsRow B 102 1 (.slice (some ⟨g, 0, none⟩) (n + 1) cap) (n + 1) (FL ++ [x])) : w.ownsRow B 102 1 (.slice (some ⟨g, 0, none⟩) n cap) n FL := by
  have hl : FL.length = n := by have := h.1; simp at this; omega
  rcases h.2 with ⟨e, _⟩ | ⟨g', cap', cur, e, h2, h3, h4, h5, h6, h7⟩
  · cases e
  · simp only [Value.slice.injEq, Option.some.injEq, Addr.mk.injEq, and_true, true_and] at e
    obtain ⟨rfl, rfl⟩ := e
    refine ⟨by omega, .inr ⟨g, cap, cur, rfl, h2, h3, by omega, h5, h6, ?_⟩⟩
    have h8 := congrArg (List.take n) h7
    rw [List.take_take, ← hl, List.take_left, Nat.min_eq_left (by omega)] at h8
    rw [← hl, Nat.mul_one]
    exact h8
theorem new_any {B : Nat} {D : Nat → Prop} (w : World) (hB : B ≤ w.heap.size) (hD : ¬ D w.heap.size) :
    Calls Tryz.prog 43 #[] w fun e w' => e = .returned (.pointer (some ⟨w.heap.size, 0, none⟩)) ∧ Gath w' B D w.heap.size [] ∧ Below w.heap.size w w' := by
  go_enter Tryz.func43, Tryz.ntmps43
  go_wp2
  go_ret
  refine ⟨rfl, ?_, (Below.refl _ _).alloc (Nat.le_refl _) _⟩
  refine ⟨.slice none 0 0, [], [], ⟨.pointer none, .slice none 0 0, hB, ?_, World.ownsRowF_nil _ _ _ _, Or.inl rfl⟩, hD, World.ownsRow_nil _ _ _ _, fun k hk => (by cases hk), .nil, Or.inl rfl⟩
  exact heap_alloc_new w _
end Go.Proofs.YthfpmhnnjjikcabGreatDoor

/- build: Delta: what a builder answers. -/
namespace Go.Proofs.YthfpmhnnjjikcabGreatDoor
open Go Go.RowKit Go.Lib
set_option linter.unusedVariables false
abbrev DelR (w w' : World) (B : Nat) (e : Ending) (E : List Op5) : Prop := ∃ v, e = .returned v ∧ DelV w' w.heap.size B v E ∧ Below w.heap.size w w'
theorem del_new {w' : World} {B1 B : Nat} {pv : Value} {PL : List Value} {E : List Op5} (h1 : OwnI w' B1 pv PL) (h2 : PieD w' B PL E) (hB : B1 ≤ w'.heap.size) : DelV (w'.alloc (.cells #[pv] 118)) B1 B (.pointer (some ⟨w'.heap.size, 0, none⟩)) E := by
  have ba : Below w'.heap.size w' (w'.alloc (.cells #[pv] 118)) := (Below.refl _ _).alloc (Nat.le_refl _) _
  exact ⟨_, pv, PL, rfl, hB, heap_alloc_new w' _, owns_below h1 ba, h2.below ba⟩
theorem bld_clone {w : World} {B g : Nat} {D : Nat → Prop} {b r : Int} {P : List Op5} {d : Int} {pv : Value} {PL : List Value} {l : List UInt8} (h : Bld w B D g b r P d pv PL l) (hP : P.length ≤ 4194304) :
    Calls Tryz.prog 77 #[pv] w fun e w' => ∃ v', e = .returned v' ∧ OwnI w' w.heap.size v' PL ∧ Below w.heap.size w w' :=
  clonePi_any pv PL B w h.row (pie_one h.pie) (by rw [forall2_len h.pie]; omega)

set_option maxHeartbeats 2000000 in
set_option maxRecDepth 100000 in
theorem delta_del {B g : Nat} {D : Nat → Prop} {b r : Int} {P : List Op5} {d : Int} (w : World) (h : BldE w B D g b r P d) (hP : P.length ≤ 4194304) (hd : 0 < d) :
    Calls Tryz.prog 45 #[.pointer (some ⟨g, 0, none⟩)] w fun e w' => DelR w w' B e (P ++ [delO d]) := by
  obtain ⟨pv, PL, l, h⟩ := h
  have cl := bld_clone h hP
  obtain ⟨_, _, q2, q3, _, hBg, _, _⟩ := h.sb.cells
  obtain ⟨p, cp, hpv⟩ := own_slice h.row
  have hB : B ≤ w.heap.size := by have := h.sb.lt; omega
  have hPL : PL.length ≤ 1048677 ∨ True := Or.inr trivial
  have HP : Hid (PieD w B PL P ∧ B ≤ w.heap.size ∧ g < w.heap.size) := ⟨h.pie, hB, h.sb.lt⟩
  have hlen : PL.length ≤ 8388608 := by rw [forall2_len h.pie]; omega
  clear h hpv hPL hB hP
  go_enter Tryz.func45, Tryz.ntmps45
  go_wp2_with fail
  refine cl.mono ?_; rintro e w1 ⟨v1, rfl, own1, hb1⟩
  have m3 := (hb1.cell (p := ⟨g, 3, none⟩) HP.out.2.2).trans q3
  have ba : Below w1.heap.size w1 (w1.alloc (.cells #[.iface 111 (.agg #[.int .i64 d])] 102)) := (Below.refl _ _).alloc (Nat.le_refl _) _
  have hu6 : (w1.alloc (.cells #[.iface 111 (.agg #[.int .i64 d])] 102)).cell? ⟨w1.heap.size, 0, none⟩ = some (.iface 111 (.agg #[.int .i64 d])) := by simp
  have hbs : w.heap.size ≤ (w1.alloc (.cells #[.iface 111 (.agg #[.int .i64 d])] 102)).heap.size := Nat.le_trans hb1.size ba.size
  have own2 : OwnI (w1.alloc (.cells #[.iface 111 (.agg #[.int .i64 d])] 102)) w.heap.size v1 PL := owns_below own1 ba
  have HO : Hid (OwnI (w1.alloc (.cells #[.iface 111 (.agg #[.int .i64 d])] 102)) w.heap.size v1 PL) := own2
  have HW : Hid (∀ v8 w8, OwnI w8 w.heap.size v8 (PL ++ [.iface 111 (.agg #[.int .i64 d])]) → (w1.alloc (.cells #[.iface 111 (.agg #[.int .i64 d])] 102)).grownBy w8 v1.ownBlock → DelV (w8.alloc (.cells #[v8] 118)) w.heap.size B (.pointer (some ⟨w8.heap.size, 0, none⟩)) (P ++ [delO d]) ∧ Below w.heap.size w (w8.alloc (.cells #[v8] 118))) := fun v8 w8 h1 h2 => by
    have hbw : Below w.heap.size w w8 := (hb1.trans (ba.mono hb1.size)).grown h2 hbs (fun k hk => (owns_block own2 k hk).1)
    have hp8 : PieD w8 B (PL ++ [.iface 111 (.agg #[.int .i64 d])]) (P ++ [delO d]) := forall2_append (HP.out.1.below hbw) (.cons ⟨.slice none 0 0, (pieceQ_4 (o := delO d) rfl).symm, World.ownsRow_nil _ _ _ _⟩ .nil)
    exact ⟨del_new h1 hp8 hbw.size, hbw.alloc hbw.size _⟩
  clear cl own1 hb1 own2 ba HP q3 q2
  go_wp2_with (at_builtin; refine wpList_append_piAt rfl (.tmp 15) (.tmp 22) rfl w.heap.size v1 PL rfl HO.out w1.heap.size 1 (.iface 111 (.agg #[.int .i64 d])) rfl hu6 rfl hlen hbs ?_; intro v8 w8 own8 gr8 at8; have HQ := HW.out v8 w8 own8 gr8; obtain ⟨p8, c8, rfl⟩ := own_slice own8; have HQ' : Hid (DelV _ _ _ _ _ ∧ Below _ _ _) := HQ; clear own8 gr8 at8 HQ HW hu6 HO)
  go_ret
  have hq := HQ'.out
  rw [show (PL ++ [Value.iface 111 (.agg #[.int .i64 d])]).length = PL.length + 1 by simp] at hq
  exact ⟨_, rfl, hq⟩
set_option maxHeartbeats 2000000 in
set_option maxRecDepth 100000 in
theorem delta_nil {B g : Nat} {D : Nat → Prop} {b r : Int} (w : World) (h : BldE w B D g b r [] 0) :
    Calls Tryz.prog 45 #[.pointer (some ⟨g, 0, none⟩)] w fun e w' => DelR w w' B e [] := by
  obtain ⟨pv, PL, l, h⟩ := h
  have cl := bld_clone h (by simp)
  obtain ⟨_, _, q2, q3, _, hBg, _, _⟩ := h.sb.cells
  obtain ⟨p, cp, hpv⟩ := own_slice h.row
  have hz : PL = [] := List.eq_nil_of_length_eq_zero (by have := forall2_len h.pie; simpa using this)
  subst hz
  have hgw := h.sb.lt
  clear h hpv
  go_enter Tryz.func45, Tryz.ntmps45
  go_wp2_with fail
  refine cl.mono ?_; rintro e w1 ⟨v1, rfl, own1, hb1⟩
  have m3 := (hb1.cell (p := ⟨g, 3, none⟩) hgw).trans q3
  obtain ⟨p1, c1, rfl⟩ := own_slice own1
  have c2 := last_nil p1 c1 w1
  have HO : Hid (OwnI w1 w.heap.size (.slice p1 ([] : List Value).length c1) [] ∧ Below w.heap.size w w1) := ⟨own1, hb1⟩
  clear cl own1 hb1 q2 q3
  go_wp2_with fail
  refine c2.mono ?_; rintro e w2 ⟨rfl, rfl⟩
  have c3 := plainN_any w2
  clear c2
  go_wp2_with fail
  refine c3.mono ?_; rintro e w3 ⟨rfl, hb3⟩
  have HQ : Hid (DelV (w3.alloc (.cells #[.slice p1 0 c1] 118)) w.heap.size B (.pointer (some ⟨w3.heap.size, 0, none⟩)) [] ∧ Below w.heap.size w (w3.alloc (.cells #[.slice p1 0 c1] 118))) := by
    have b3 := HO.out.2.trans (hb3.mono HO.out.2.size)
    exact ⟨del_new (pv := .slice p1 0 c1) (PL := []) (owns_below HO.out.1 hb3) .nil b3.size, b3.alloc b3.size _⟩
  clear c3 hb3 HO
  go_wp2
  go_ret
  exact ⟨_, rfl, HQ.out⟩
set_option maxHeartbeats 4000000 in
set_option maxRecDepth 100000 in
theorem delta_some {B g : Nat} {D : Nat → Prop} {b r : Int} {F : List Op5} {x : Op5} (w : World) (h : BldE w B D g b r (F ++ [x]) 0) (hP : F.length ≤ 4194303) (hk : x.k = 1 ∨ x.k = 2 ∨ x.k = 3 ∨ x.k = 4) :
    Calls Tryz.prog 45 #[.pointer (some ⟨g, 0, none⟩)] w fun e w' => DelR w w' B e (if plainR x then F else F ++ [x]) := by
  obtain ⟨pv, PL, l, h⟩ := h
  have cl := bld_clone h (by rw [List.length_append]; simp; omega)
  obtain ⟨_, _, q2, q3, _, hBg, _, _⟩ := h.sb.cells
  obtain ⟨p, cp, hpv⟩ := own_slice h.row
  obtain ⟨FL, s, rfl, hFL, hs⟩ := pie_last h.pie
  have hgw := h.sb.lt
  obtain ⟨n, hn⟩ : ∃ n, FL.length = n := ⟨_, rfl⟩
  have hnF : n = F.length := by rw [← hn, forall2_len hFL]
  obtain ⟨ps, cs, hsl⟩ := own_slice hs
  have CP : Hid (∀ W, Calls Tryz.prog 78 #[pieceQ x s] W fun r w' => r = .returned (.bool (plainR x)) ∧ Below W.heap.size W w') := fun W => by rw [hsl]; exact plainB_any x ps x.A.length cs W rfl hk
  have hq := pieceQ_if x s
  obtain ⟨PQ, hPQ⟩ : ∃ z, pieceQ x s = z := ⟨_, rfl⟩
  have HP : Hid (PieD w B FL F ∧ PieD w B (FL ++ [PQ]) (F ++ [x]) ∧ FL.length = n) := ⟨hFL, by rw [← hPQ]; exact h.pie, hn⟩
  rw [hPQ] at cl CP hq
  obtain ⟨pl, hpl⟩ : ∃ z, plainR x = z := ⟨_, rfl⟩
  rw [hpl] at CP ⊢
  have hnl : n ≤ 4194303 := by omega
  clear h hpv hFL hs hn hnF hsl hPQ hk hpl hP
  have hz : ((n : Int) + 1) - 1 = (n : Int) := by omega
  go_enter Tryz.func45, Tryz.ntmps45
  go_wp2_with fail
  refine cl.mono ?_; rintro e w1 ⟨v1, rfl, own1, hb1⟩
  have m3 := (hb1.cell (p := ⟨g, 3, none⟩) hgw).trans q3
  have hln : (FL ++ [PQ]).length = n + 1 := by simp [HP.out.2.2]
  obtain ⟨pb, cap, rfl, hcap⟩ : ∃ pb cap, v1 = .slice (some ⟨pb, 0, none⟩) (n + 1) cap ∧ n + 1 ≤ cap := by
    rcases own1.2 with ⟨_, e⟩ | ⟨g', cap, cur, e, _, _, hc, _⟩
    · rw [hln] at e; omega
    · exact ⟨g', cap, by rw [e, hln], by omega⟩
  have c2 := last_one _ FL PQ w.heap.size w1 own1 (by rw [HP.out.2.2]; omega)
  have HO : Hid (OwnI w1 w.heap.size (.slice (some ⟨pb, 0, none⟩) (n + 1) cap) (FL ++ [PQ]) ∧ Below w.heap.size w w1) := ⟨own1, hb1⟩
  clear cl own1 hb1 q2 q3 hln
  obtain ⟨uu, xx, rfl⟩ := hq
  go_wp2_with fail
  refine c2.mono ?_; rintro e w2 ⟨rfl, rfl⟩
  have c3 := CP.out w2
  clear c2 CP
  cases pl with
  | true =>
    go_wp2_with fail
    refine c3.mono ?_; rintro e w3 ⟨rfl, hb3⟩
    have HQ : Hid (DelV (w3.alloc (.cells #[.slice (some ⟨pb, 0, none⟩) n cap] 118)) w.heap.size B (.pointer (some ⟨w3.heap.size, 0, none⟩)) F ∧ Below w.heap.size w (w3.alloc (.cells #[.slice (some ⟨pb, 0, none⟩) n cap] 118))) := by
      have b3 := HO.out.2.trans (hb3.mono HO.out.2.size)
      have o3 : w3.ownsRow w.heap.size 102 1 (.slice (some ⟨pb, 0, none⟩) (n + 1) cap) (n + 1) (FL ++ [.iface uu xx]) := by
        have := owns_below HO.out.1 hb3
        rw [show (FL ++ [Value.iface uu xx]).length = n + 1 by simp [HP.out.2.2]] at this
        exact this
      have o4 := own_front o3
      have o5 : OwnI w3 w.heap.size (.slice (some ⟨pb, 0, none⟩) n cap) FL := by
        show World.ownsRow _ _ _ _ _ _ _
        rw [HP.out.2.2]
        exact o4
      exact ⟨del_new o5 (HP.out.1.below b3) b3.size, b3.alloc b3.size _⟩
    clear c3 hb3 HO HP
    go_wp2
    go_ret
    exact ⟨_, rfl, HQ.out⟩
  | false =>
    go_wp2_with fail
    refine c3.mono ?_; rintro e w3 ⟨rfl, hb3⟩
    have HQ : Hid (DelV (w3.alloc (.cells #[.slice (some ⟨pb, 0, none⟩) (n + 1) cap] 118)) w.heap.size B (.pointer (some ⟨w3.heap.size, 0, none⟩)) (F ++ [x]) ∧ Below w.heap.size w (w3.alloc (.cells #[.slice (some ⟨pb, 0, none⟩) (n + 1) cap] 118))) := by
      have b3 := HO.out.2.trans (hb3.mono HO.out.2.size)
      exact ⟨del_new (owns_below HO.out.1 hb3) (HP.out.2.1.below b3) b3.size, b3.alloc b3.size _⟩
    clear c3 hb3 HO HP
    go_wp2
    go_ret
    exact ⟨_, rfl, HQ.out⟩
/-- What a builder answers. -/
theorem delta_any {B g : Nat} {D : Nat → Prop} {E : List Op5} (w : World) (h : Gath w B D g E) (hE : OkE E) :
    Calls Tryz.prog 45 #[.pointer (some ⟨g, 0, none⟩)] w fun e w' => DelR w w' B e (canonL E) := by
  obtain ⟨r1, r2, r3, r4, r5⟩ := okE_run hE
  rw [← finB_canon hE.wel]
  unfold Gath at h
  obtain ⟨⟨P, d⟩, hs⟩ : ∃ s, bldR E = s := ⟨_, rfl⟩
  rw [hs] at h r1 r2 r3 r4 r5 ⊢
  have h : BldE w B D g (sumB E) (sumR E) P d := h
  have r2 : OkP P := r2
  have r4 : 0 ≤ d := r4
  have e : finB (P, d) = if 0 < d then P ++ [delO d] else trimL P := rfl
  rw [e]
  by_cases h0 : 0 < d
  · rw [if_pos h0]
    exact delta_del w h r2.len h0
  · rw [if_neg h0]
    obtain rfl : d = 0 := by omega
    rcases List.eq_nil_or_concat P with rfl | ⟨F, x, rfl⟩
    · exact delta_nil w h
    · rw [List.concat_eq_append] at h r2 ⊢
      have := delta_some w h (by have := r2.len; rw [List.length_append] at this; simp at this; omega) (r2.wel x (List.mem_append_right _ (List.mem_singleton.2 rfl))).kinds
      unfold trimL
      rw [List.getLast?_concat, List.dropLast_concat]
      exact this
end Go.Proofs.YthfpmhnnjjikcabGreatDoor
