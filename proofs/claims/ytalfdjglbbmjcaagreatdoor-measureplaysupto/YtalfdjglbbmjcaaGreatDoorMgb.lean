/- The canonical list of operations: its units are theirs, each gap's inserts ahead of its deletes. Deltas unit by unit: their edits of cells; their lengths. The builder as plain data: its pieces, how many cells go behind them; what it ends in is the canonical list. A slice of operations among the arguments, with the letters of all its texts together. A builder in memory: what stands while it is written; the strings.Builder that it bears. build: last, grow, joinText, join: the builder's own parts. build: join: the last piece and another as one. build: join, where both are texts or both are retains. build: add and settle: a piece put behind the others. -/
import Derived.Test.YtalfdjglbbmjcaaGreatDoorMga
import Derived.Lib.FrozenHead2
import Derived.Lib.UnsafeStr
import Derived.Lib.OthersKept
import Derived.BigRegion
import Derived.OneCell
import Derived.Maps.AppendAt

/- The canonical list of operations: its units are theirs, each gap's inserts ahead of its deletes. -/
namespace Go.Proofs.YtalfdjglbbmjcaaGreatDoor
open Go Go.RowKit Go.Lib
set_option linter.unusedVariables false

/-- Units, each gap's inserts ahead of its deletes (I, d: what the gap at hand has so far). -/
def nrm (I : List U6) (d : Nat) : List U6 → List U6
  | [] => I ++ List.replicate d .del
  | .keep A :: r => I ++ (List.replicate d .del ++ .keep A :: nrm [] 0 r)
  | .del :: r => nrm I (d + 1) r
  | .ins c :: r => nrm (I ++ [.ins c]) d r
theorem nrm_ins (l : List C5) : ∀ (I : List U6) (d : Nat) (r : List U6), nrm I d (l.map .ins ++ r) = nrm (I ++ l.map .ins) d r := by
  induction l with
  | nil => intro I d r; simp
  | cons c l ih =>
    intro I d r
    show nrm (I ++ [.ins c]) d (l.map .ins ++ r) = _
    rw [ih]; simp
theorem nrm_del (n : Nat) : ∀ (I : List U6) (d : Nat) (r : List U6), nrm I d (List.replicate n .del ++ r) = nrm I (d + n) r := by
  induction n with
  | zero => intro I d r; simp
  | succ n ih =>
    intro I d r
    rw [List.replicate_succ]
    show nrm I (d + 1) (List.replicate n .del ++ r) = _
    rw [ih, show d + 1 + n = d + (n + 1) by omega]
theorem nrm_keeps (A : List A2) : ∀ (n : Nat) (r : List U6), nrm [] 0 (List.replicate n (.keep A) ++ r) = List.replicate n (.keep A) ++ nrm [] 0 r
  | 0, r => by simp
  | n + 1, r => by
    rw [List.replicate_succ]
    show [] ++ (List.replicate 0 U6.del ++ .keep A :: nrm [] 0 (List.replicate n (.keep A) ++ r)) = _
    rw [nrm_keeps A n r]; rfl
theorem nrm_keep (A : List A2) (n : Nat) (hn : 1 ≤ n) (I : List U6) (d : Nat) (r : List U6) :
    nrm I d (List.replicate n (.keep A) ++ r) = I ++ (List.replicate d .del ++ (List.replicate n (.keep A) ++ nrm [] 0 r)) := by
  obtain ⟨m, rfl⟩ : ∃ m, n = m + 1 := ⟨n - 1, by omega⟩
  rw [List.replicate_succ]
  show I ++ (List.replicate d U6.del ++ .keep A :: nrm [] 0 (List.replicate m (.keep A) ++ r)) = _
  rw [nrm_keeps]; rfl
theorem nrm_pre (J I : List U6) : ∀ (r : List U6) (d : Nat), nrm (J ++ I) d r = J ++ nrm I d r
  | [], d => by show (J ++ I) ++ _ = _; rw [List.append_assoc]; rfl
  | .keep A :: r, d => by show (J ++ I) ++ _ = _; rw [List.append_assoc]; rfl
  | .del :: r, d => nrm_pre J I r (d + 1)
  | .ins c :: r, d => by
    show nrm (J ++ I ++ [.ins c]) d r = J ++ nrm (I ++ [.ins c]) d r
    rw [List.append_assoc]
    exact nrm_pre J (I ++ [.ins c]) r d
theorem unitsO_1 {o : Op5} (h : o.k = 1 ∨ o.k = 2) : unitsO o = (cellsOf o).map .ins := by unfold unitsO; rw [if_pos h]
theorem unitsO_3 {o : Op5} (h : o.k = 3) : unitsO o = List.replicate o.c.toNat (.keep o.A) := by unfold unitsO; rw [if_neg (by omega), if_pos h]
theorem unitsO_4 {o : Op5} (h : o.k = 4) : unitsO o = List.replicate o.c.toNat .del := by unfold unitsO; rw [if_neg (by omega), if_neg (by omega)]
theorem Wel.count {o : Op5} (h : Wel o) (hk : o.k = 3 ∨ o.k = 4) : 1 ≤ o.c := by
  rcases h with ⟨_, h⟩ | ⟨_, _, _, h, _⟩ | ⟨_, _, _, h, _⟩
  · omega
  · exact h
  · exact h

/-- Two operations as one. -/
def jnO (x o : Op5) : Op5 := ⟨x.k, x.t ++ o.t, x.v, x.c + o.c, x.A⟩
/-- An operation put behind others, joined with the last one where that may be. -/
def pushL (out : List Op5) (o : Op5) : List Op5 :=
  match out.getLast? with
  | none => [o]
  | some x => if x.k ≠ o.k ∨ o.k = 2 ∨ x.A ≠ o.A then out ++ [o] else out.dropLast ++ [jnO x o]
theorem push_nil (o : Op5) : pushL [] o = [o] := rfl
theorem push_apart {F : List Op5} {x o : Op5} (h : x.k ≠ o.k ∨ o.k = 2 ∨ x.A ≠ o.A) : pushL (F ++ [x]) o = F ++ [x] ++ [o] := by
  unfold pushL
  rw [List.getLast?_concat]
  exact if_pos h
theorem push_join {F : List Op5} {x o : Op5} (h : ¬ (x.k ≠ o.k ∨ o.k = 2 ∨ x.A ≠ o.A)) : pushL (F ++ [x]) o = F ++ [jnO x o] := by
  unfold pushL
  rw [List.getLast?_concat, List.dropLast_concat]
  exact if_neg h
theorem join_wel {x o : Op5} (hx : Wel x) (ho : Wel o) (hk : x.k = o.k) (h2 : o.k ≠ 2) (hA : x.A = o.A) : Wel (jnO x o) ∧ unitsO (jnO x o) = unitsO x ++ unitsO o := by
  have e0 : (⟨#[]⟩ : ByteArray) ++ ⟨#[]⟩ = ⟨#[]⟩ := rfl
  rcases hx with ⟨i1, k1⟩ | ⟨k1, a1, a2, a3, a4⟩ | ⟨k1, a1, a2, a3, a4⟩
  · have k1 : x.k = 1 := by omega
    obtain ⟨i2, _⟩ := ho.resolve_right (by rintro (h | h) <;> omega)
    have hs : (x.t ++ o.t).size = x.t.size + o.t.size := ByteArray.size_append
    have hc := scs_cat (a := x.t.data.toList) (b := o.t.data.toList) (by rw [i1.utf, size_toList]) (by rw [i2.utf, size_toList])
    refine ⟨Or.inl ⟨⟨Or.inl ⟨k1, (i1.kind.resolve_right (by omega)).2⟩, size_isEmp ?_, ?_, ?_, i1.val, i1.set⟩, Or.inl k1⟩, ?_⟩
    · have := isEmp_size i1.full
      show 0 < (x.t ++ o.t).size
      omega
    · show x.c + o.c = 0
      rw [i1.count, i2.count]; rfl
    · show brk (x.t ++ o.t).data.toList = (x.t ++ o.t).size
      rw [cat_list, hc.2, List.length_append, size_toList, size_toList, hs]
    · rw [unitsO_1 (show (jnO x o).k = 1 ∨ (jnO x o).k = 2 from Or.inl k1), unitsO_1 (Or.inl k1), unitsO_1 (Or.inl (by omega))]
      unfold cellsOf
      rw [if_pos (show (jnO x o).k = 1 from k1), if_pos k1, if_pos (show o.k = 1 by omega), ← hA]
      show (mkC x.A (scs (x.t ++ o.t).data.toList)).map U6.ins = _
      rw [cat_list, hc.1]
      simp [mkC]
  · obtain ⟨_, b1, b2, b3, b4⟩ := (ho.resolve_left (fun h => by omega)).resolve_right (fun h => by omega)
    refine ⟨Or.inr (Or.inl ⟨k1, by show x.t ++ o.t = _; rw [a1, b1, e0], a2, by show 1 ≤ x.c + o.c; omega, a4⟩), ?_⟩
    rw [unitsO_3 (show (jnO x o).k = 3 from k1), unitsO_3 k1, unitsO_3 (by omega), ← hA]
    show List.replicate (x.c + o.c).toNat (U6.keep x.A) = _
    rw [show (x.c + o.c).toNat = x.c.toNat + o.c.toNat by omega, List.replicate_append_replicate.symm]
  · obtain ⟨_, b1, b2, b3, b4⟩ := (ho.resolve_left (fun h => by omega)).resolve_left (fun h => by omega)
    refine ⟨Or.inr (Or.inr ⟨k1, by show x.t ++ o.t = _; rw [a1, b1, e0], a2, by show 1 ≤ x.c + o.c; omega, a4⟩), ?_⟩
    rw [unitsO_4 (show (jnO x o).k = 4 from k1), unitsO_4 k1, unitsO_4 (by omega)]
    show List.replicate (x.c + o.c).toNat U6.del = _
    rw [show (x.c + o.c).toNat = x.c.toNat + o.c.toNat by omega, List.replicate_append_replicate.symm]
theorem chain_snoc : ∀ (E : List Op5) (x o : Op5), chainB (E ++ [x] ++ [o]) = (chainB (E ++ [x]) && apartB x o)
  | [], x, o => by simp [chainB]
  | [y], x, o => by simp [chainB]
  | y :: z :: r, x, o => by
    have := chain_snoc (z :: r) x o
    simp only [List.cons_append, chainB] at this ⊢
    rw [this, Bool.and_assoc]
theorem chain_last : ∀ (E : List Op5) {x y : Op5}, x.k = y.k → x.A = y.A → chainB (E ++ [x]) = chainB (E ++ [y])
  | [], x, y, _, _ => rfl
  | [z], x, y, hk, hA => by simp [chainB, apartB, hk, hA]
  | z :: u :: r, x, y, hk, hA => by
    have := chain_last (u :: r) hk hA
    simp only [List.cons_append, chainB] at this ⊢
    rw [this]
/-- A list that no two neighbours of which might be one, well formed; the kind of its last one. -/
structure Chn (E : List Op5) (P : Int → Prop) : Prop where
  wel : ∀ o ∈ E, Wel o
  chain : chainB E = true
  last : ∀ F x, E = F ++ [x] → P x.k
theorem wel_snoc {F : List Op5} {x : Op5} : (∀ o ∈ F ++ [x], Wel o) ↔ (∀ o ∈ F, Wel o) ∧ Wel x := by
  constructor
  · intro h; exact ⟨fun o ho => h o (List.mem_append_left _ ho), h x (List.mem_append_right _ (List.mem_singleton.2 rfl))⟩
  · rintro ⟨h1, h2⟩ o ho
    rcases List.mem_append.1 ho with h | h
    · exact h1 o h
    · rw [List.mem_singleton.1 h]; exact h2
theorem last_snoc {P : Int → Prop} {G : List Op5} {z : Op5} (h : P z.k) : ∀ F x, G ++ [z] = F ++ [x] → P x.k := fun F x e => by
  have := List.append_inj_right' e rfl
  rw [← List.cons.inj this |>.1]; exact h
theorem push_chn {out : List Op5} {o : Op5} {P : Int → Prop} (h : Chn out P) (ho : Wel o) (hP : ∀ k, P k → k = 4 → o.k = 3 ∨ o.k = 4) :
    Chn (pushL out o) (fun k => k = o.k) ∧ units (pushL out o) = units out ++ unitsO o := by
  rcases List.eq_nil_or_concat out with rfl | ⟨F, x, rfl⟩
  · rw [push_nil]
    exact ⟨⟨fun y hy => by rw [List.mem_singleton.1 hy]; exact ho, rfl, last_snoc (P := fun k => k = o.k) (G := []) (z := o) rfl⟩, by rw [units_one]; rfl⟩
  · rw [List.concat_eq_append] at h ⊢
    obtain ⟨w1, w2⟩ := wel_snoc.1 h.wel
    have hl := h.last F x rfl
    by_cases hj : x.k ≠ o.k ∨ o.k = 2 ∨ x.A ≠ o.A
    · rw [push_apart hj]
      refine ⟨⟨wel_snoc.2 ⟨h.wel, ho⟩, ?_, last_snoc (P := fun k => k = o.k) (z := o) rfl⟩, by rw [units_append (F ++ [x]), units_one]⟩
      rw [chain_snoc, h.chain]
      unfold apartB
      by_cases h4 : x.k = 4
      · rw [if_pos h4]
        rcases hP _ hl h4 with h3 | h3
        · simp [h3]
        · exfalso
          rcases hj with hj | hj | hj
          · omega
          · omega
          · obtain ⟨_, _, _, _, a⟩ := (w2.resolve_left (fun h => by omega)).resolve_left (fun h => by omega)
            obtain ⟨_, _, _, _, b⟩ := (ho.resolve_left (fun h => by omega)).resolve_left (fun h => by omega)
            exact hj (by rw [a, b])
      · rw [if_neg h4]
        by_cases h5 : x.k ≠ o.k ∨ x.k = 2
        · rw [if_pos h5]; rfl
        · rw [if_neg h5]
          have : x.A ≠ o.A := by
            rcases hj with hj | hj | hj
            · exact absurd (Or.inl hj) h5
            · exact absurd (Or.inr (by omega)) h5
            · exact hj
          simp [this]
    · rw [push_join hj]
      have hk : x.k = o.k := Decidable.byContradiction fun e => hj (Or.inl e)
      have h2 : o.k ≠ 2 := fun e => hj (Or.inr (Or.inl e))
      have hA : x.A = o.A := Decidable.byContradiction fun e => hj (Or.inr (Or.inr e))
      obtain ⟨j1, j2⟩ := join_wel w2 ho hk h2 hA
      refine ⟨⟨wel_snoc.2 ⟨w1, j1⟩, ?_, last_snoc (P := fun k => k = o.k) (z := jnO x o) (show (jnO x o).k = o.k from hk)⟩, ?_⟩
      · rw [chain_last F (x := jnO x o) (y := x) rfl rfl]; exact h.chain
      · rw [units_append, units_one, j2, units_append, units_one, List.append_assoc]

/-- A delete. -/
def delO (n : Int) : Op5 := ⟨4, ⟨#[]⟩, z0, n, []⟩
theorem delO_wel {n : Int} (h : 1 ≤ n) : Wel (delO n) := Or.inr (Or.inr ⟨rfl, rfl, rfl, h, rfl⟩)
/-- What a gap has, put behind. -/
def flushL (out gap : List Op5) (g : Int) : List Op5 := if 0 < g then pushL (gap.foldl pushL out) (delO g) else gap.foldl pushL out
/-- One operation gathered: what is whole, the gap's inserts, how many cells go there. -/
def stepC (s : List Op5 × List Op5 × Int) (o : Op5) : List Op5 × List Op5 × Int :=
  if o.k = 1 ∨ o.k = 2 then (s.1, s.2.1 ++ [o], s.2.2) else if o.k = 4 then (s.1, s.2.1, s.2.2 + o.c) else (pushL (flushL s.1 s.2.1 s.2.2) o, [], 0)
def runC (E : List Op5) : List Op5 × List Op5 × Int := E.foldl stepC ([], [], 0)
/-- Without a plain retain at the end. -/
def trimL (out : List Op5) : List Op5 := match out.getLast? with | some o => if plainR o then out.dropLast else out | none => out
/-- The canonical list of operations. -/
def canonL (E : List Op5) : List Op5 := trimL (flushL (runC E).1 (runC E).2.1 (runC E).2.2)
theorem gap_chn : ∀ {gap out : List Op5}, Chn out (fun k => k ≠ 4) → (∀ o ∈ gap, Wel o ∧ (o.k = 1 ∨ o.k = 2)) →
    Chn (gap.foldl pushL out) (fun k => k ≠ 4) ∧ units (gap.foldl pushL out) = units out ++ units gap
  | [], out, h, _ => ⟨h, by show _ = _ ++ []; rw [List.append_nil]; rfl⟩
  | o :: r, out, h, hg => by
    obtain ⟨ho, hk⟩ := hg o (List.mem_cons_self ..)
    obtain ⟨p1, p2⟩ := push_chn h ho (fun k h4 e => absurd e h4)
    have p1' : Chn (pushL out o) (fun k => k ≠ 4) := ⟨p1.wel, p1.chain, fun F x e => by have := p1.last F x e; omega⟩
    obtain ⟨q1, q2⟩ := gap_chn p1' (fun x hx => hg x (List.mem_cons_of_mem _ hx))
    refine ⟨q1, ?_⟩
    show units (r.foldl pushL (pushL out o)) = _
    rw [q2, p2, List.append_assoc]; rfl
theorem flush_chn {out gap : List Op5} {g : Int} (h : Chn out (fun k => k = 3)) (hg : ∀ o ∈ gap, Wel o ∧ (o.k = 1 ∨ o.k = 2)) :
    Chn (flushL out gap g) (fun _ => True) ∧ units (flushL out gap g) = units out ++ (units gap ++ List.replicate g.toNat .del) := by
  obtain ⟨p1, p2⟩ := gap_chn (⟨h.wel, h.chain, fun F x e => by have := h.last F x e; omega⟩ : Chn out (fun k => k ≠ 4)) hg
  unfold flushL
  split
  · rename_i h0
    obtain ⟨q1, q2⟩ := push_chn p1 (delO_wel h0) (fun k h4 e => absurd e h4)
    refine ⟨⟨q1.wel, q1.chain, fun _ _ _ => trivial⟩, ?_⟩
    rw [q2, p2, List.append_assoc, unitsO_4 (show (delO g).k = 4 from rfl)]; rfl
  · rename_i h0
    refine ⟨⟨p1.wel, p1.chain, fun _ _ _ => trivial⟩, ?_⟩
    rw [p2, show g.toNat = 0 by omega]
    simp
/-- What is so between two operations. -/
structure Run (E : List Op5) (s : List Op5 × List Op5 × Int) : Prop where
  out : Chn s.1 (fun k => k = 3)
  gap : ∀ o ∈ s.2.1, Wel o ∧ (o.k = 1 ∨ o.k = 2)
  gone : 0 ≤ s.2.2
  same : ∀ r, nrm [] 0 (units E ++ r) = units s.1 ++ nrm (units s.2.1) s.2.2.toNat r
theorem run_step {E : List Op5} {s : List Op5 × List Op5 × Int} {o : Op5} (h : Run E s) (ho : Wel o) : Run (E ++ [o]) (stepC s o) := by
  have hs : ∀ r, nrm [] 0 (units (E ++ [o]) ++ r) = units s.1 ++ nrm (units s.2.1) s.2.2.toNat (unitsO o ++ r) := fun r => by
    rw [units_append, units_one, List.append_assoc, h.same]
  unfold stepC
  rcases ho.kinds with hk | hk | hk | hk
  · rw [if_pos (Or.inl hk)]
    refine ⟨h.out, fun x hx => ?_, h.gone, fun r => ?_⟩
    · rcases List.mem_append.1 hx with hx | hx
      · exact h.gap x hx
      · rw [List.mem_singleton.1 hx]; exact ⟨ho, Or.inl hk⟩
    · rw [hs, unitsO_1 (Or.inl hk), nrm_ins, units_append, units_one, unitsO_1 (Or.inl hk)]
  · rw [if_pos (Or.inr hk)]
    refine ⟨h.out, fun x hx => ?_, h.gone, fun r => ?_⟩
    · rcases List.mem_append.1 hx with hx | hx
      · exact h.gap x hx
      · rw [List.mem_singleton.1 hx]; exact ⟨ho, Or.inr hk⟩
    · rw [hs, unitsO_1 (Or.inr hk), nrm_ins, units_append, units_one, unitsO_1 (Or.inr hk)]
  · rw [if_neg (by omega), if_neg (by omega)]
    obtain ⟨f1, f2⟩ := flush_chn (g := s.2.2) h.out h.gap
    obtain ⟨p1, p2⟩ := push_chn f1 ho (fun k _ _ => Or.inl hk)
    refine ⟨⟨p1.wel, p1.chain, fun F x e => by have := p1.last F x e; omega⟩, fun x hx => (by cases hx), Int.le_refl 0, fun r => ?_⟩
    have hc := ho.count (Or.inl hk)
    rw [hs, unitsO_3 hk, nrm_keep _ _ (by omega)]
    show _ = units (pushL _ o) ++ nrm [] 0 r
    rw [p2, f2, unitsO_3 hk]
    simp only [List.append_assoc]
  · rw [if_neg (by omega), if_pos hk]
    have hc := ho.count (Or.inr hk)
    refine ⟨h.out, h.gap, ?_, fun r => ?_⟩
    · have := h.gone
      show 0 ≤ s.2.2 + o.c
      omega
    · have := h.gone
      rw [hs, unitsO_4 hk, nrm_del]
      show _ = units s.1 ++ nrm (units s.2.1) (s.2.2 + o.c).toNat r
      rw [show (s.2.2 + o.c).toNat = s.2.2.toNat + o.c.toNat by omega]
theorem run_all : ∀ (F E : List Op5) (s : List Op5 × List Op5 × Int), Run E s → (∀ o ∈ F, Wel o) → Run (E ++ F) (F.foldl stepC s)
  | [], E, s, h, _ => by rw [List.append_nil]; exact h
  | o :: r, E, s, h, hF => by
    have := run_all r (E ++ [o]) (stepC s o) (run_step h (hF o (List.mem_cons_self ..))) (fun x hx => hF x (List.mem_cons_of_mem _ hx))
    rw [List.append_assoc] at this
    exact this
theorem run_of {E : List Op5} (h : ∀ o ∈ E, Wel o) : Run E (runC E) := by
  have := run_all E [] ([], [], 0) ⟨⟨fun o ho => (by cases ho), rfl, fun F x e => (by simp at e)⟩, fun o ho => (by cases ho), Int.le_refl 0, fun r => rfl⟩ h
  rw [List.nil_append] at this
  exact this

/-- Is a unit kept as it is? -/
def plainU : U6 → Bool
  | .keep A => A.isEmpty
  | _ => false
/-- Units without those at the end that are kept as they are. -/
def stripU (U : List U6) : List U6 := (U.reverse.dropWhile plainU).reverse
theorem strip_end {U : List U6} {u : U6} (h : plainU u = false) : stripU (U ++ [u]) = U ++ [u] := by
  unfold stripU
  rw [List.reverse_append]
  show ((u :: U.reverse).dropWhile plainU).reverse = _
  rw [List.dropWhile_cons, h]
  simp
theorem strip_plain {u : U6} (h : plainU u = true) : ∀ (n : Nat) (U : List U6), stripU (U ++ List.replicate n u) = stripU U
  | 0, U => by simp
  | n + 1, U => by
    rw [List.replicate_succ', ← List.append_assoc]
    unfold stripU
    rw [List.reverse_append]
    show ((u :: (U ++ List.replicate n u).reverse).dropWhile plainU).reverse = _
    rw [List.dropWhile_cons, h]
    exact strip_plain h n U
theorem units_last {x : Op5} (h : Wel x) (hp : plainR x = false) : ∃ us u, unitsO x = us ++ [u] ∧ plainU u = false := by
  rcases List.eq_nil_or_concat (unitsO x) with he | ⟨us, u, he⟩
  · exact absurd he (unitsO_ne h)
  · rw [List.concat_eq_append] at he
    refine ⟨us, u, he, ?_⟩
    have hu : u ∈ unitsO x := by rw [he]; simp
    rcases unit_cases h hu with ⟨h1, r, rfl⟩ | ⟨h1, rfl⟩ | ⟨h1, rfl⟩ | ⟨h1, rfl⟩
    · rfl
    · rfl
    · unfold plainR at hp
      rw [h1] at hp
      simpa [plainU] using hp
    · rfl
theorem strip_id {F : List Op5} {x : Op5} (h : Wel x) (hp : plainR x = false) : stripU (units (F ++ [x])) = units (F ++ [x]) := by
  obtain ⟨us, u, h1, h2⟩ := units_last h hp
  rw [units_append, units_one, h1, ← List.append_assoc]
  exact strip_end h2
theorem lastP_snoc (F : List Op5) (x : Op5) : lastP (F ++ [x]) = !plainR x := by unfold lastP; rw [List.getLast?_concat]
theorem strip_can {E : List Op5} (hw : ∀ o ∈ E, Wel o) (hl : lastP E = true) : stripU (units E) = units E := by
  rcases List.eq_nil_or_concat E with rfl | ⟨F, x, rfl⟩
  · rfl
  · rw [List.concat_eq_append] at *
    rw [lastP_snoc] at hl
    exact strip_id (wel_snoc.1 hw).2 (by simpa using hl)
theorem chain_front {F : List Op5} {x : Op5} (h : chainB (F ++ [x]) = true) : chainB F = true := by
  rcases List.eq_nil_or_concat F with rfl | ⟨G, y, rfl⟩
  · rfl
  · rw [List.concat_eq_append] at *
    rw [chain_snoc, Bool.and_eq_true] at h
    exact h.1
theorem trim_chn {E : List Op5} {P : Int → Prop} (h : Chn E P) : (∀ o ∈ trimL E, Wel o) ∧ chainB (trimL E) = true ∧ lastP (trimL E) = true ∧ units (trimL E) = stripU (units E) := by
  rcases List.eq_nil_or_concat E with rfl | ⟨F, x, rfl⟩
  · exact ⟨h.wel, h.chain, rfl, rfl⟩
  · rw [List.concat_eq_append] at *
    obtain ⟨w1, w2⟩ := wel_snoc.1 h.wel
    unfold trimL
    rw [List.getLast?_concat]
    simp only [List.dropLast_concat]
    cases hp : plainR x with
    | false =>
      simp only [Bool.false_eq_true, if_false]
      exact ⟨h.wel, h.chain, by rw [lastP_snoc, hp]; rfl, (strip_id w2 hp).symm⟩
    | true =>
      simp only [if_true]
      have hx : x.k = 3 ∧ x.A = [] := by
        unfold plainR at hp
        simpa using hp
      have hl : lastP F = true := by
        rcases List.eq_nil_or_concat F with rfl | ⟨G, y, rfl⟩
        · rfl
        · rw [List.concat_eq_append] at *
          have := h.chain
          rw [chain_snoc, Bool.and_eq_true] at this
          have ha := this.2
          rw [lastP_snoc]
          cases hq : plainR y with
          | false => rfl
          | true =>
            exfalso
            have hy : y.k = 3 ∧ y.A = [] := by unfold plainR at hq; simpa using hq
            unfold apartB at ha
            rw [if_neg (by omega), if_neg (by omega), hy.2, hx.2] at ha
            simp at ha
      refine ⟨w1, chain_front h.chain, hl, ?_⟩
      rw [units_append, units_one, unitsO_3 hx.1, hx.2, strip_plain rfl]
      exact (strip_can w1 hl).symm
/-- **What the canonical list is: its neighbours are apart, no plain retain ends it, and its units are those of the operations, put in order.** -/
theorem canon_spec {E : List Op5} (h : ∀ o ∈ E, Wel o) : (∀ o ∈ canonL E, Wel o) ∧ chainB (canonL E) = true ∧ lastP (canonL E) = true ∧ units (canonL E) = stripU (nrm [] 0 (units E)) := by
  have r := run_of h
  obtain ⟨f1, f2⟩ := flush_chn (g := (runC E).2.2) r.out r.gap
  obtain ⟨t1, t2, t3, t4⟩ := trim_chn f1
  refine ⟨t1, t2, t3, ?_⟩
  have e := r.same []
  rw [List.append_nil] at e
  show units (trimL _) = _
  rw [t4, f2, e]; rfl
theorem canon_unique {E F : List Op5} (h : ∀ o ∈ E, Wel o) (hF : ∀ o ∈ F, Wel o) (hc : chainB F = true) (e : units F = stripU (nrm [] 0 (units E))) : canonL E = F := by
  obtain ⟨t1, t2, t3, t4⟩ := canon_spec h
  exact units_inj t1 hF t2 hc (by rw [t4, e])
theorem nrm_chain : ∀ {F : List Op5} (I : List U6), (∀ o ∈ F, Wel o) → chainB F = true → nrm I 0 (units F) = I ++ units F
  | [], I, _, _ => by show I ++ [] = _; rfl
  | o :: r, I, hF, hc => by
    have ho := hF o (List.mem_cons_self ..)
    have ih := fun J => nrm_chain (F := r) J (fun x hx => hF x (List.mem_cons_of_mem _ hx)) (chain_tail hc)
    show nrm I 0 (unitsO o ++ units r) = I ++ (unitsO o ++ units r)
    rcases ho.kinds with hk | hk | hk | hk
    · rw [unitsO_1 (Or.inl hk), nrm_ins, ih, List.append_assoc]
    · rw [unitsO_1 (Or.inr hk), nrm_ins, ih, List.append_assoc]
    · have := ho.count (Or.inl hk)
      rw [unitsO_3 hk, nrm_keep _ _ (by omega), ih]
      simp
    · rw [unitsO_4 hk, nrm_del]
      cases r with
      | nil => show I ++ List.replicate (0 + o.c.toNat) U6.del = I ++ (_ ++ []); rw [Nat.zero_add, List.append_nil]
      | cons y s =>
        have hy := hF y (by simp)
        rw [chainB, Bool.and_eq_true] at hc
        have ha := hc.1
        unfold apartB at ha
        rw [if_pos hk] at ha
        have hk3 : y.k = 3 := by simpa using ha
        have := hy.count (Or.inl hk3)
        have ih2 := nrm_chain (F := s) [] (fun x hx => hF x (by simp [hx])) (chain_tail hc.2)
        show nrm I _ (unitsO y ++ units s) = _ ++ (_ ++ (unitsO y ++ units s))
        rw [unitsO_3 hk3, nrm_keep _ _ (by omega), ih2, Nat.zero_add]
        simp
/-- A canonical list is its own. -/
theorem canon_self {F : List Op5} (hF : ∀ o ∈ F, Wel o) (hc : chainB F = true) (hl : lastP F = true) : canonL F = F :=
  canon_unique hF hF hc (by rw [nrm_chain [] hF hc, List.nil_append, strip_can hF hl])
end Go.Proofs.YtalfdjglbbmjcaaGreatDoor

/- Deltas unit by unit: their edits of cells; their lengths. -/
namespace Go.Proofs.YtalfdjglbbmjcaaGreatDoor
open Go Go.RowKit Go.Lib
set_option linter.unusedVariables false

/-- A cell with a patch. -/
def patC (c : C5) (A : List A2) : C5 := (c.1, c.2.1, c.2.2.1, jn (chC false) c.2.2.2 A)
theorem patC_nil {c : C5} (h : listE false none c.2.2.2 = 0) : patC c [] = c := by
  obtain ⟨a, b, d, e⟩ := c
  show (a, b, d, jn (chC false) e []) = _
  rw [comp_nil h]
/-- Units done to cells: what comes of the cells that they reach, and those behind. -/
def runU : List U6 → List C5 → Option (List C5 × List C5)
  | [], cs => some ([], cs)
  | .ins c :: u, cs => (runU u cs).map fun x => (c :: x.1, x.2)
  | .keep A :: u, c :: cs => (runU u cs).map fun x => (patC c A :: x.1, x.2)
  | .keep _ :: _, [] => none
  | .del :: u, _ :: cs => runU u cs
  | .del :: _, [] => none
/-- Cells, edited; none: there are too few. -/
def edit (U : List U6) (cs : List C5) : Option (List C5) := (runU U cs).map fun x => x.1 ++ x.2
theorem run_append : ∀ (U V : List U6) (cs : List C5), runU (U ++ V) cs = (runU U cs).bind fun x => (runU V x.2).map fun y => (x.1 ++ y.1, y.2)
  | [], V, cs => by
    show runU V cs = (runU V cs).map fun y => ([] ++ y.1, y.2)
    simp
  | .ins c :: u, V, cs => by
    show (runU (u ++ V) cs).map _ = ((runU u cs).map _).bind _
    rw [run_append u V cs]
    cases runU u cs with
    | none => rfl
    | some x => simp [Option.map_map, Function.comp_def]
  | .keep A :: u, V, [] => rfl
  | .keep A :: u, V, c :: cs => by
    show (runU (u ++ V) cs).map _ = ((runU u cs).map _).bind _
    rw [run_append u V cs]
    cases runU u cs with
    | none => rfl
    | some x => simp [Option.map_map, Function.comp_def]
  | .del :: u, V, [] => rfl
  | .del :: u, V, c :: cs => run_append u V cs
theorem run_ins : ∀ (l cs : List C5), runU (l.map U6.ins) cs = some (l, cs)
  | [], cs => rfl
  | c :: l, cs => by
    show (runU (l.map U6.ins) cs).map _ = _
    rw [run_ins l cs]; rfl
theorem run_dels : ∀ (n : Nat) (cs : List C5), runU (List.replicate n .del) cs = if n ≤ cs.length then some ([], cs.drop n) else none
  | 0, cs => by rw [if_pos (Nat.zero_le _)]; rfl
  | n + 1, [] => by rw [if_neg (by simp)]; rfl
  | n + 1, c :: cs => by
    rw [List.replicate_succ]
    show runU (List.replicate n .del) cs = _
    rw [run_dels n cs]
    simp
theorem run_congr {V W : List U6} (h : ∀ cs, runU V cs = runU W cs) (U : List U6) (cs : List C5) : runU (U ++ V) cs = runU (U ++ W) cs := by
  rw [run_append, run_append]
  congr 1
  funext x
  rw [h]
/-- What comes and what goes in one gap may be told in any order. -/
theorem run_swap (l : List C5) (n : Nat) (V : List U6) (cs : List C5) : runU (List.replicate n .del ++ (l.map .ins ++ V)) cs = runU (l.map .ins ++ (List.replicate n .del ++ V)) cs := by
  rw [run_append, run_append, run_ins, run_dels]
  simp only [Option.bind_some]
  rw [run_append, run_dels]
  split
  · simp only [Option.bind_some]
    rw [run_append, run_ins]
    simp [Option.map_map, Function.comp_def]
  · rfl
theorem run_nrm : ∀ (U : List U6) (l : List C5) (d : Nat) (cs : List C5), runU (nrm (l.map .ins) d U) cs = runU (l.map .ins ++ (List.replicate d .del ++ U)) cs
  | [], l, d, cs => by rw [nrm, List.append_nil]
  | .keep A :: r, l, d, cs => by
    rw [nrm]
    refine run_congr (fun cs => run_congr (fun cs => ?_) _ cs) _ cs
    have := fun cs => run_nrm r [] 0 cs
    exact run_congr (V := nrm [] 0 r) (W := r) this [U6.keep A] cs
  | .del :: r, l, d, cs => by
    rw [nrm, run_nrm r l (d + 1) cs, List.replicate_succ', List.append_assoc]; rfl
  | .ins c :: r, l, d, cs => by
    rw [nrm, show l.map U6.ins ++ [.ins c] = (l ++ [c]).map U6.ins by simp, run_nrm r (l ++ [c]) d cs]
    rw [List.map_append, List.append_assoc]
    refine run_congr (fun cs => ?_) _ cs
    exact (run_swap [c] d r cs).symm
theorem run_rest : ∀ (U : List U6) (cs : List C5) (o r : List C5), runU U cs = some (o, r) → ∀ c ∈ r, c ∈ cs
  | [], cs, o, r, h => by
    obtain ⟨-, rfl⟩ := Prod.mk.inj (Option.some.inj h)
    exact fun c hc => hc
  | .ins c :: u, cs, o, r, h => by
    obtain ⟨x, hx, he⟩ := Option.map_eq_some_iff.1 (show (runU u cs).map _ = _ from h)
    obtain ⟨-, rfl⟩ := Prod.mk.inj he
    exact run_rest u cs x.1 x.2 hx
  | .keep A :: u, [], o, r, h => by cases h
  | .keep A :: u, c :: cs, o, r, h => by
    obtain ⟨x, hx, he⟩ := Option.map_eq_some_iff.1 (show (runU u cs).map _ = _ from h)
    obtain ⟨-, rfl⟩ := Prod.mk.inj he
    exact fun c hc => List.mem_cons_of_mem _ (run_rest u cs x.1 x.2 hx c hc)
  | .del :: u, [], o, r, h => by cases h
  | .del :: u, c :: cs, o, r, h => fun c hc => List.mem_cons_of_mem _ (run_rest u cs o r h c hc)
/-- Cells whose attributes are sets. -/
def SetC (cs : List C5) : Prop := ∀ c ∈ cs, listE false none c.2.2.2 = 0
theorem edit_snoc {U : List U6} {u : U6} {cs xs : List C5} (hs : SetC cs) (hp : plainU u = true) (h : edit (U ++ [u]) cs = some xs) : edit U cs = some xs := by
  cases u with
  | ins c => cases hp
  | del => cases hp
  | keep A =>
    obtain rfl : A = [] := by simpa [plainU] using hp
    unfold edit at h ⊢
    rw [run_append] at h
    cases hU : runU U cs with
    | none => rw [hU] at h; cases h
    | some x =>
      rw [hU] at h
      simp only [Option.bind_some] at h
      obtain ⟨o, r⟩ := x
      cases r with
      | nil => cases h
      | cons c r =>
        have hc := hs c (run_rest U cs o _ hU c (List.mem_cons_self ..))
        simp only [runU, Option.map_some, patC_nil hc, Option.some.injEq] at h ⊢
        rw [← h]; simp
theorem mem_tw {p : U6 → Bool} {u : U6} : ∀ {l : List U6}, u ∈ l.takeWhile p → p u = true
  | [], h => by cases h
  | x :: l, h => by
    rw [List.takeWhile_cons] at h
    split at h
    · rename_i hx
      rcases List.mem_cons.1 h with rfl | h
      · exact hx
      · exact mem_tw h
    · cases h
theorem strip_cut : ∀ U : List U6, ∃ V, U = stripU U ++ V ∧ ∀ u ∈ V, plainU u = true := fun U => by
  refine ⟨(U.reverse.takeWhile plainU).reverse, ?_, fun u hu => ?_⟩
  · unfold stripU
    rw [← List.reverse_append, List.takeWhile_append_dropWhile, List.reverse_reverse]
  · exact mem_tw (List.mem_reverse.1 hu)
theorem edit_strip {U : List U6} {cs xs : List C5} (hs : SetC cs) (h : edit U cs = some xs) : edit (stripU U) cs = some xs := by
  obtain ⟨V, h1, h2⟩ := strip_cut U
  have aux : ∀ (V W : List U6), (∀ u ∈ V, plainU u = true) → edit (W ++ V) cs = some xs → edit W cs = some xs := fun V => by
    induction V with
    | nil => intro W _ h; simpa using h
    | cons u V ih =>
      intro W hV h
      refine edit_snoc hs (hV u (List.mem_cons_self ..)) (ih (W ++ [u]) (fun v hv => hV v (List.mem_cons_of_mem _ hv)) (by rw [List.append_assoc]; exact h))
  exact aux V _ h2 (by rw [← h1]; exact h)
/-- **The canonical list does what the operations do.** -/
theorem edit_canon {E : List Op5} (hE : ∀ o ∈ E, Wel o) {cs xs : List C5} (hs : SetC cs) (h : edit (units E) cs = some xs) : edit (units (canonL E)) cs = some xs := by
  rw [(canon_spec hE).2.2.2]
  refine edit_strip hs ?_
  have := run_nrm (units E) [] 0 cs
  unfold edit at h ⊢
  rw [show nrm [] 0 (units E) = nrm (([] : List C5).map .ins) 0 (units E) from rfl, this]
  exact h

/-! Lengths. -/
def baseU (U : List U6) : Nat := U.countP fun u => match u with | .ins _ => false | _ => true
def resU (U : List U6) : Nat := U.countP fun u => match u with | .del => false | _ => true
def sumB (E : List Op5) : Int := (E.map baseO).sum
def sumR (E : List Op5) : Int := (E.map resO).sum
theorem len5_units {o : Op5} (h : Wel o) : len5 o = ((unitsO o).length : Int) := by
  unfold len5
  rcases h.kinds with hk | hk | hk | hk
  · rw [if_pos (Or.inl hk), unitsO_1 (Or.inl hk), List.length_map, cellsOf_len]
  · rw [if_pos (Or.inr hk), unitsO_1 (Or.inr hk), List.length_map, cellsOf_len]
  · have := h.count (Or.inl hk)
    rw [if_neg (by omega), unitsO_3 hk, List.length_replicate]; omega
  · have := h.count (Or.inr hk)
    rw [if_neg (by omega), unitsO_4 hk, List.length_replicate]; omega
theorem countP_all {p : U6 → Bool} {U : List U6} (h : ∀ u ∈ U, p u = true) : U.countP p = U.length := by
  rw [List.countP_eq_length]; exact h
theorem countP_none {p : U6 → Bool} {U : List U6} (h : ∀ u ∈ U, p u = false) : U.countP p = 0 := by
  rw [List.countP_eq_zero]; intro u hu; rw [h u hu]; simp
theorem base_units {o : Op5} (h : Wel o) : baseO o = (baseU (unitsO o) : Int) := by
  unfold baseO baseU
  rcases h.kinds with hk | hk | hk | hk
  · rw [if_neg (by omega), countP_none]; rfl
    intro u hu
    rcases unit_cases h hu with ⟨_, r, rfl⟩ | ⟨_, rfl⟩ | ⟨h2, _⟩ | ⟨h2, _⟩ <;> first | rfl | omega
  · rw [if_neg (by omega), countP_none]; rfl
    intro u hu
    rcases unit_cases h hu with ⟨_, r, rfl⟩ | ⟨_, rfl⟩ | ⟨h2, _⟩ | ⟨h2, _⟩ <;> first | rfl | omega
  · rw [if_pos (Or.inl hk), countP_all, len5_units h]
    intro u hu
    rcases unit_cases h hu with ⟨h2, _⟩ | ⟨h2, _⟩ | ⟨_, rfl⟩ | ⟨_, rfl⟩ <;> first | rfl | omega
  · rw [if_pos (Or.inr hk), countP_all, len5_units h]
    intro u hu
    rcases unit_cases h hu with ⟨h2, _⟩ | ⟨h2, _⟩ | ⟨_, rfl⟩ | ⟨_, rfl⟩ <;> first | rfl | omega
theorem res_units {o : Op5} (h : Wel o) : resO o = (resU (unitsO o) : Int) := by
  unfold resO resU
  rcases h.kinds with hk | hk | hk | hk
  · rw [if_neg (by omega), countP_all, len5_units h]
    intro u hu
    rcases unit_cases h hu with ⟨_, r, rfl⟩ | ⟨_, rfl⟩ | ⟨h2, _⟩ | ⟨h2, _⟩ <;> first | rfl | omega
  · rw [if_neg (by omega), countP_all, len5_units h]
    intro u hu
    rcases unit_cases h hu with ⟨_, r, rfl⟩ | ⟨_, rfl⟩ | ⟨h2, _⟩ | ⟨h2, _⟩ <;> first | rfl | omega
  · rw [if_neg (by omega), countP_all, len5_units h]
    intro u hu
    rcases unit_cases h hu with ⟨h2, _⟩ | ⟨h2, _⟩ | ⟨_, rfl⟩ | ⟨h2, rfl⟩ <;> first | rfl | omega
  · rw [if_pos hk, countP_none]; rfl
    intro u hu
    rcases unit_cases h hu with ⟨h2, _⟩ | ⟨h2, _⟩ | ⟨h2, rfl⟩ | ⟨_, rfl⟩ <;> first | rfl | omega
theorem sumB_units : ∀ {E : List Op5}, (∀ o ∈ E, Wel o) → sumB E = (baseU (units E) : Int)
  | [], _ => rfl
  | o :: r, h => by
    show baseO o + sumB r = ((unitsO o ++ units r).countP _ : Nat)
    rw [List.countP_append, base_units (h o (List.mem_cons_self ..)), sumB_units fun x hx => h x (List.mem_cons_of_mem _ hx)]
    simp [baseU]
theorem sumR_units : ∀ {E : List Op5}, (∀ o ∈ E, Wel o) → sumR E = (resU (units E) : Int)
  | [], _ => rfl
  | o :: r, h => by
    show resO o + sumR r = ((unitsO o ++ units r).countP _ : Nat)
    rw [List.countP_append, res_units (h o (List.mem_cons_self ..)), sumR_units fun x hx => h x (List.mem_cons_of_mem _ hx)]
    simp [resU]
theorem nrm_perm : ∀ (U I : List U6) (d : Nat), (nrm I d U).Perm (I ++ (List.replicate d .del ++ U))
  | [], I, d => by rw [nrm, List.append_nil]
  | .keep A :: r, I, d => by
    rw [nrm]
    refine List.Perm.append_left _ (List.Perm.append_left _ (List.Perm.cons _ ?_))
    exact nrm_perm r [] 0
  | .del :: r, I, d => by
    rw [nrm]
    refine (nrm_perm r I (d + 1)).trans ?_
    rw [List.replicate_succ', List.append_assoc]; exact List.Perm.refl _
  | .ins c :: r, I, d => by
    rw [nrm]
    refine (nrm_perm r (I ++ [.ins c]) d).trans ?_
    rw [List.append_assoc]
    exact List.Perm.append_left _ (show (U6.ins c :: (List.replicate d U6.del ++ r)).Perm (List.replicate d U6.del ++ U6.ins c :: r) from List.perm_middle.symm)
theorem strip_count (p : U6 → Bool) (U : List U6) : (stripU U).countP p ≤ U.countP p := by
  obtain ⟨V, h1, _⟩ := strip_cut U
  conv => rhs; rw [h1]
  rw [List.countP_append]
  omega
/-- The canonical list is no longer than the operations. -/
theorem canon_sums {E : List Op5} (h : ∀ o ∈ E, Wel o) : sumB (canonL E) ≤ sumB E ∧ sumR (canonL E) ≤ sumR E := by
  obtain ⟨t1, _, _, t4⟩ := canon_spec h
  rw [sumB_units t1, sumR_units t1, sumB_units h, sumR_units h, t4]
  have hp := nrm_perm (units E) [] 0
  have e1 : baseU (nrm [] 0 (units E)) = baseU (units E) := hp.countP_eq _
  have e2 : resU (nrm [] 0 (units E)) = resU (units E) := hp.countP_eq _
  have s1 : baseU (stripU (nrm [] 0 (units E))) ≤ _ := strip_count _ _
  have s2 : resU (stripU (nrm [] 0 (units E))) ≤ _ := strip_count _ _
  have s1 : baseU (stripU (nrm [] 0 (units E))) ≤ baseU (nrm [] 0 (units E)) := s1
  have s2 : resU (stripU (nrm [] 0 (units E))) ≤ resU (nrm [] 0 (units E)) := s2
  omega
theorem base_nn {o : Op5} (h : Wel o) : 0 ≤ baseO o := by rw [base_units h]; omega
theorem res_nn {o : Op5} (h : Wel o) : 0 ≤ resO o := by rw [res_units h]; omega
theorem sums_nn : ∀ {E : List Op5}, (∀ o ∈ E, Wel o) → 0 ≤ sumB E ∧ 0 ≤ sumR E := fun {E} h => by rw [sumB_units h, sumR_units h]; omega
theorem sumL_ok : ∀ {E : List Op5} {b r : Int}, (∀ o ∈ E, Wel o) → (b + sumB E ≤ 1099511627776 ∧ r + sumR E ≤ 1099511627776) → sumL b r E = (b + sumB E, r + sumR E, 0)
  | [], b, r, _, _ => by rw [sumL]; simp [sumB, sumR]
  | o :: E, b, r, h, hl => by
    have ho := h o (List.mem_cons_self ..)
    have hE : ∀ x ∈ E, Wel x := fun x hx => h x (List.mem_cons_of_mem _ hx)
    have n := sums_nn hE
    have e1 : sumB (o :: E) = baseO o + sumB E := rfl
    have e2 : sumR (o :: E) = resO o + sumR E := rfl
    rw [e1, e2] at hl ⊢
    rw [sumL, if_neg (by omega), sumL_ok hE (by omega)]
    congr 1
    · omega
    · congr 1; omega
theorem sumL_bad : ∀ {E : List Op5} {b r : Int}, (∀ o ∈ E, Wel o) → (sumL b r E).2.2 = 0 → b ≤ 1099511627776 → r ≤ 1099511627776 → b + sumB E ≤ 1099511627776 ∧ r + sumR E ≤ 1099511627776
  | [], b, r, _, _, hb, hr => by simpa [sumB, sumR] using ⟨hb, hr⟩
  | o :: E, b, r, h, hz, hb, hr => by
    have hE : ∀ x ∈ E, Wel x := fun x hx => h x (List.mem_cons_of_mem _ hx)
    have e1 : sumB (o :: E) = baseO o + sumB E := rfl
    have e2 : sumR (o :: E) = resO o + sumR E := rfl
    rw [sumL] at hz
    split at hz
    · cases hz
    · have := sumL_bad hE hz (by omega) (by omega)
      rw [e1, e2]; omega
theorem mem_sums : ∀ {E : List Op5} {o : Op5}, (∀ x ∈ E, Wel x) → o ∈ E → baseO o ≤ sumB E ∧ resO o ≤ sumR E
  | x :: E, o, h, ho => by
    have hE : ∀ y ∈ E, Wel y := fun y hy => h y (List.mem_cons_of_mem _ hy)
    have n := sums_nn hE
    have hx := h x (List.mem_cons_self ..)
    have n1 := base_nn hx
    have n2 := res_nn hx
    have e1 : sumB (x :: E) = baseO x + sumB E := rfl
    have e2 : sumR (x :: E) = resO x + sumR E := rfl
    rw [e1, e2]
    rcases List.mem_cons.1 ho with rfl | ho
    · omega
    · have := mem_sums hE ho
      omega
theorem wel_good {E : List Op5} (h : ∀ o ∈ E, Wel o) (hb : sumB E ≤ 1099511627776) : ∀ o ∈ E, opE o = 0 := fun o ho => by
  refine (h o ho).good ?_
  have hw := h o ho
  have m := (mem_sums h ho).1
  rcases hw.kinds with hk | hk | hk | hk
  · obtain ⟨i, _⟩ := hw.resolve_right (by rintro (h | h) <;> omega)
    rw [i.count]; decide
  · obtain ⟨i, _⟩ := hw.resolve_right (by rintro (h | h) <;> omega)
    rw [i.count]; decide
  · unfold baseO len5 at m
    rw [if_pos (Or.inl hk), if_neg (by omega)] at m
    omega
  · unfold baseO len5 at m
    rw [if_pos (Or.inr hk), if_neg (by omega)] at m
    omega
/-- **The canonical list is canonical.** -/
theorem canon_canon {E : List Op5} (h : ∀ o ∈ E, Wel o) (hb : sumB E ≤ 1099511627776) (hr : sumR E ≤ 1099511627776) : canonB (canonL E) = true := by
  obtain ⟨t1, t2, t3, _⟩ := canon_spec h
  obtain ⟨s1, s2⟩ := canon_sums h
  unfold canonB
  rw [t2, t3, Bool.and_true, Bool.and_true]
  refine decide_eq_true ((lens_cases _).2 ⟨bad_zero.2 (wel_good t1 (by omega)), ?_⟩)
  rw [sumL_ok t1 (by omega)]
/-- Is a list canonical? By its parts. -/
theorem canonB_iff {E : List Op5} : canonB E = true ↔ (∀ o ∈ E, Wel o) ∧ sumB E ≤ 1099511627776 ∧ sumR E ≤ 1099511627776 ∧ chainB E = true ∧ lastP E = true := by
  unfold canonB
  rw [Bool.and_eq_true, Bool.and_eq_true, decide_eq_true_iff, lens_cases]
  constructor
  · rintro ⟨⟨⟨h1, h2⟩, h3⟩, h4⟩
    have hw : ∀ o ∈ E, Wel o := fun o ho => wel_of (bad_zero.1 h1 o ho)
    have := sumL_bad hw h2 (by decide) (by decide)
    exact ⟨hw, by omega, by omega, h3, h4⟩
  · rintro ⟨h1, h2, h3, h4, h5⟩
    refine ⟨⟨⟨bad_zero.2 (wel_good h1 h2), ?_⟩, h4⟩, h5⟩
    rw [sumL_ok h1 (by omega)]
end Go.Proofs.YtalfdjglbbmjcaaGreatDoor

/- The builder as plain data: its pieces, how many cells go behind them; what it ends in is the canonical list. -/
namespace Go.Proofs.YtalfdjglbbmjcaaGreatDoor
open Go Go.RowKit Go.Lib
set_option linter.unusedVariables false

/-- The pieces, what is deleted behind them put there. -/
def setB (s : List Op5 × Int) : List Op5 := if 0 < s.2 then s.1 ++ [delO s.2] else s.1
/-- One operation gathered. -/
def stB (s : List Op5 × Int) (o : Op5) : List Op5 × Int :=
  if o.k = 4 then (s.1, s.2 + o.c) else if o.k = 3 then (pushL (setB s) o, 0) else (pushL s.1 o, s.2)
/-- What the builder answers. -/
def finB (s : List Op5 × Int) : List Op5 := if 0 < s.2 then s.1 ++ [delO s.2] else trimL s.1
def bldR (E : List Op5) : List Op5 × Int := E.foldl stB ([], 0)

theorem push_del {P : List Op5} {n : Int} (h : ∀ F x, P = F ++ [x] → x.k ≠ 4) : pushL P (delO n) = P ++ [delO n] := by
  rcases List.eq_nil_or_concat P with rfl | ⟨F, x, rfl⟩
  · rfl
  · rw [List.concat_eq_append] at h ⊢
    exact push_apart (Or.inl (h F x rfl))
/-- What is so of the builder between two operations. -/
structure BSt (s : List Op5 × Int) : Prop where
  chn : Chn s.1 (fun k => k ≠ 4)
  gone : 0 ≤ s.2
theorem BSt.nil : BSt ([], 0) := ⟨⟨fun o ho => (by cases ho), rfl, fun F x e => (by simp at e)⟩, Int.le_refl 0⟩
theorem setB_flush {s : List Op5 × Int} (h : BSt s) : setB s = flushL s.1 [] s.2 := by
  unfold setB flushL
  split
  · exact (push_del fun F x e => h.chn.last F x e).symm
  · rfl
theorem setB_chn {s : List Op5 × Int} (h : BSt s) : Chn (setB s) (fun _ => True) ∧ units (setB s) = units s.1 ++ List.replicate s.2.toNat .del := by
  unfold setB
  split
  · rename_i h0
    obtain ⟨q1, q2⟩ := push_chn h.chn (delO_wel h0) (fun k h4 e => absurd e h4)
    rw [push_del fun F x e => h.chn.last F x e] at q1 q2
    refine ⟨⟨q1.wel, q1.chain, fun _ _ _ => trivial⟩, ?_⟩
    rw [q2, unitsO_4 (show (delO s.2).k = 4 from rfl)]; rfl
  · rename_i h0
    refine ⟨⟨h.chn.wel, h.chn.chain, fun _ _ _ => trivial⟩, ?_⟩
    rw [show s.2.toNat = 0 by omega]; simp
theorem stB_st {s : List Op5 × Int} {o : Op5} (h : BSt s) (ho : Wel o) : BSt (stB s o) := by
  unfold stB
  rcases ho.kinds with hk | hk | hk | hk
  · rw [if_neg (by omega), if_neg (by omega)]
    obtain ⟨p1, _⟩ := push_chn h.chn ho (fun k h4 e => absurd e h4)
    exact ⟨⟨p1.wel, p1.chain, fun F x e => by have := p1.last F x e; omega⟩, h.gone⟩
  · rw [if_neg (by omega), if_neg (by omega)]
    obtain ⟨p1, _⟩ := push_chn h.chn ho (fun k h4 e => absurd e h4)
    exact ⟨⟨p1.wel, p1.chain, fun F x e => by have := p1.last F x e; omega⟩, h.gone⟩
  · rw [if_neg (by omega), if_pos hk]
    obtain ⟨p1, _⟩ := push_chn (setB_chn h).1 ho (fun k _ _ => Or.inl hk)
    exact ⟨⟨p1.wel, p1.chain, fun F x e => by have := p1.last F x e; omega⟩, Int.le_refl 0⟩
  · rw [if_pos hk]
    have := ho.count (Or.inr hk)
    exact ⟨h.chn, by have := h.gone; show 0 ≤ s.2 + o.c; omega⟩
theorem bldR_st {E : List Op5} : ∀ {s : List Op5 × Int}, BSt s → (∀ o ∈ E, Wel o) → BSt (E.foldl stB s) := by
  induction E with
  | nil => intro s h _; exact h
  | cons o r ih => intro s h hE; exact ih (stB_st h (hE o (List.mem_cons_self ..))) (fun x hx => hE x (List.mem_cons_of_mem _ hx))

/-- The reference's state and the builder's. -/
def mirB (c : List Op5 × List Op5 × Int) : List Op5 × Int := (c.2.1.foldl pushL c.1, c.2.2)
theorem mir_flush {c : List Op5 × List Op5 × Int} (h : BSt (mirB c)) : flushL c.1 c.2.1 c.2.2 = setB (mirB c) := by
  unfold flushL setB mirB at *
  split
  · exact push_del fun F x e => h.chn.last F x e
  · rfl
theorem mir_step {c : List Op5 × List Op5 × Int} {o : Op5} (h : BSt (mirB c)) (ho : Wel o) : mirB (stepC c o) = stB (mirB c) o := by
  unfold stepC stB
  rcases ho.kinds with hk | hk | hk | hk
  · rw [if_pos (Or.inl hk), if_neg (by omega), if_neg (by omega)]
    simp [mirB, List.foldl_append]
  · rw [if_pos (Or.inr hk), if_neg (by omega), if_neg (by omega)]
    simp [mirB, List.foldl_append]
  · rw [if_neg (by omega), if_neg (by omega), if_neg (by omega), if_pos hk, mir_flush h]; rfl
  · rw [if_neg (by omega), if_pos hk, if_pos hk]; rfl
theorem mir_run : ∀ (E : List Op5) (c : List Op5 × List Op5 × Int), BSt (mirB c) → (∀ o ∈ E, Wel o) → mirB (E.foldl stepC c) = E.foldl stB (mirB c)
  | [], c, _, _ => rfl
  | o :: r, c, h, hE => by
    have ho := hE o (List.mem_cons_self ..)
    have e := mir_step h ho
    show mirB (r.foldl stepC (stepC c o)) = r.foldl stB (stB (mirB c) o)
    rw [mir_run r (stepC c o) (by rw [e]; exact stB_st h ho) (fun x hx => hE x (List.mem_cons_of_mem _ hx)), e]
theorem trim_del (P : List Op5) (n : Int) : trimL (P ++ [delO n]) = P ++ [delO n] := by
  unfold trimL
  rw [List.getLast?_concat]
  simp only [show plainR (delO n) = false from rfl]
  rfl
/-- What the builder answers is the canonical list. -/
theorem finB_canon {E : List Op5} (h : ∀ o ∈ E, Wel o) : finB (bldR E) = canonL E := by
  have e : mirB (runC E) = bldR E := mir_run E ([], [], 0) BSt.nil h
  have hs : BSt (bldR E) := bldR_st BSt.nil h
  unfold canonL
  rw [mir_flush (by rw [e]; exact hs), e]
  unfold finB setB
  split
  · rw [trim_del]
  · rfl
theorem bldR_snoc (E : List Op5) (o : Op5) : bldR (E ++ [o]) = stB (bldR E) o := by unfold bldR; rw [List.foldl_append]; rfl
/-- A canonical list gathered again. -/
theorem bldR_wel {E : List Op5} (h : ∀ o ∈ E, Wel o) : ∀ o ∈ (bldR E).1, Wel o := (bldR_st BSt.nil h).chn.wel

/-- How long the texts are. -/
def txtS (E : List Op5) : Nat := (E.map (·.t.size)).sum
theorem txtS_append (E F : List Op5) : txtS (E ++ F) = txtS E + txtS F := by unfold txtS; rw [List.map_append, List.sum_append]
theorem txtS_one (o : Op5) : txtS [o] = o.t.size := by simp [txtS]
theorem txtS_mem {E : List Op5} {o : Op5} (h : o ∈ E) : o.t.size ≤ txtS E := by
  induction E with
  | nil => cases h
  | cons x r ih =>
    have e : txtS (x :: r) = x.t.size + txtS r := by simp [txtS]
    rcases List.mem_cons.1 h with rfl | h
    · omega
    · have := ih h; omega
/-- An operation but for its text isn't too great. -/
structure FitA (o : Op5) : Prop where
  v : o.v.2.2.size ≤ 1048576
  A : ∀ q ∈ o.A, q.1.size ≤ 1048576 ∧ q.2.2.2.size ≤ 1048576
  n : o.A.length ≤ 1048576
theorem Fit.fitA {o : Op5} (h : Fit o) : FitA o := ⟨h.v, h.A, h.n⟩
theorem FitA.fit {o : Op5} (h : FitA o) (ht : o.t.size ≤ 8388608) : Fit o := ⟨ht, h.v, h.A, h.n⟩
theorem fitA_all {E : List Op5} (h : ∀ o ∈ E, FitA o) (ht : txtS E ≤ 8388608) : FitL E := fun o ho => (h o ho).fit (Nat.le_trans (txtS_mem ho) ht)
theorem delO_fitA (n : Int) : FitA (delO n) := ⟨by show (0 : Nat) ≤ _; omega, fun q hq => (by cases hq), by show (0 : Nat) ≤ _; omega⟩
theorem push_size (P : List Op5) (o : Op5) : txtS (pushL P o) = txtS P + o.t.size ∧ (pushL P o).length ≤ P.length + 1 := by
  rcases List.eq_nil_or_concat P with rfl | ⟨F, x, rfl⟩
  · rw [push_nil]; simp [txtS]
  · rw [List.concat_eq_append]
    by_cases hj : x.k ≠ o.k ∨ o.k = 2 ∨ x.A ≠ o.A
    · rw [push_apart hj, txtS_append, txtS_one]
      exact ⟨rfl, by rw [List.length_append]; exact Nat.le_refl _⟩
    · rw [push_join hj, txtS_append, txtS_append, txtS_one, txtS_one]
      have hs : (jnO x o).t.size = x.t.size + o.t.size := ByteArray.size_append
      rw [hs]
      exact ⟨by omega, by simp⟩
theorem push_fitA {P : List Op5} {o : Op5} (h : ∀ x ∈ P, FitA x) (ho : FitA o) : ∀ x ∈ pushL P o, FitA x := by
  rcases List.eq_nil_or_concat P with rfl | ⟨F, x, rfl⟩
  · rw [push_nil]; intro y hy; rw [List.mem_singleton.1 hy]; exact ho
  · rw [List.concat_eq_append] at h ⊢
    by_cases hj : x.k ≠ o.k ∨ o.k = 2 ∨ x.A ≠ o.A
    · rw [push_apart hj]
      intro y hy
      rcases List.mem_append.1 hy with hy | hy
      · exact h y hy
      · rw [List.mem_singleton.1 hy]; exact ho
    · rw [push_join hj]
      intro y hy
      rcases List.mem_append.1 hy with hy | hy
      · exact h y (List.mem_append_left _ hy)
      · rw [List.mem_singleton.1 hy]
        have := h x (List.mem_append_right _ (List.mem_singleton.2 rfl))
        exact ⟨this.v, this.A, this.n⟩
/-- The builder's sizes: n operations, texts of N bytes. -/
structure BSz (s : List Op5 × Int) (n N : Nat) : Prop where
  fit : ∀ x ∈ s.1, FitA x
  txt : txtS s.1 ≤ N
  len : s.1.length + (if 0 < s.2 then 1 else 0) ≤ n
theorem BSz.nil : BSz ([], 0) 0 0 := ⟨fun x hx => (by cases hx), Nat.le_refl 0, by simp⟩
theorem BSz.set {s : List Op5 × Int} {n N : Nat} (h : BSz s n N) : (∀ x ∈ setB s, FitA x) ∧ txtS (setB s) ≤ N ∧ (setB s).length ≤ n := by
  have h3 := h.len
  unfold setB
  split
  · rename_i h0
    rw [if_pos h0] at h3
    refine ⟨fun x hx => ?_, ?_, by rw [List.length_append]; exact h3⟩
    · rcases List.mem_append.1 hx with hx | hx
      · exact h.fit x hx
      · rw [List.mem_singleton.1 hx]; exact delO_fitA _
    · rw [txtS_append, txtS_one]
      exact h.txt
  · exact ⟨h.fit, h.txt, by omega⟩
theorem BSz.step {s : List Op5 × Int} {n N : Nat} {o : Op5} (h : BSz s n N) (ho : FitA o) : BSz (stB s o) (n + 1) (N + o.t.size) := by
  have h3 := h.len
  unfold stB
  by_cases h4 : o.k = 4
  · rw [if_pos h4]
    refine ⟨h.fit, by have := h.txt; show txtS s.1 ≤ _; omega, ?_⟩
    show s.1.length + (if 0 < s.2 + o.c then 1 else 0) ≤ n + 1
    split <;> omega
  · rw [if_neg h4]
    by_cases h5 : o.k = 3
    · rw [if_pos h5]
      obtain ⟨a, b, c⟩ := h.set
      obtain ⟨d, e⟩ := push_size (setB s) o
      refine ⟨push_fitA a ho, by show txtS (pushL (setB s) o) ≤ _; omega, ?_⟩
      show (pushL (setB s) o).length + (if (0 : Int) < 0 then 1 else 0) ≤ n + 1
      simp only [show ¬ ((0 : Int) < 0) by omega, if_false]; omega
    · rw [if_neg h5]
      obtain ⟨d, e⟩ := push_size s.1 o
      refine ⟨push_fitA h.fit ho, by have := h.txt; show txtS (pushL s.1 o) ≤ _; omega, ?_⟩
      show (pushL s.1 o).length + (if 0 < s.2 then 1 else 0) ≤ n + 1
      omega
theorem bldR_sz : ∀ (E : List Op5) {s : List Op5 × Int} {n N : Nat}, BSz s n N → (∀ o ∈ E, FitA o) → BSz (E.foldl stB s) (n + E.length) (N + txtS E)
  | [], s, n, N, h, _ => h
  | o :: r, s, n, N, h, hE => by
    have := bldR_sz r (h.step (hE o (List.mem_cons_self ..))) (fun x hx => hE x (List.mem_cons_of_mem _ hx))
    have e : txtS (o :: r) = o.t.size + txtS r := by simp [txtS]
    rw [e, List.length_cons, show N + (o.t.size + txtS r) = N + o.t.size + txtS r by omega, show n + (r.length + 1) = n + 1 + r.length by omega]
    exact this
end Go.Proofs.YtalfdjglbbmjcaaGreatDoor

/- A slice of operations among the arguments, with the letters of all its texts together. -/
namespace Go.Proofs.YtalfdjglbbmjcaaGreatDoor
open Go Go.RowKit Go.Lib Go.ChangeShapes Go.WideShapes Go.ChangeAt Go.Joins
set_option linter.unusedVariables false

theorem txt_bulk {H : Type} : ∀ (l : List Nat) (f : Nat → Op5) (D : Nat → DataW H), (∀ i ∈ l, (f i).t.size ≤ Rows.uptoBulk (D i)) → txtS (l.map f) ≤ Rows.uptoBulkAll (l.map D)
  | [], f, D, _ => Nat.zero_le _
  | a :: r, f, D, h => by
    have h1 := h a (List.mem_cons_self ..)
    have h2 := txt_bulk r f D fun i hi => h i (List.mem_cons_of_mem _ hi)
    show (f a).t.size + txtS (r.map f) ≤ Rows.uptoBulk (D a) + Rows.uptoBulkAll (r.map D)
    omega
theorem bulk_op {H : Type} {enc : TypeId × Value → H} {W : World} {cs : List Value} {d : DataW H} {p : List MemPlace} {fuel : Nat}
    (h : DataW.trod enc Tryz.prog W 0 (fun _ => true) true fuel 33 cs = some (d, p)) : 6 ≤ Rows.uptoBulk d := by
  obtain ⟨xs, n, _, hx, _, hl, _⟩ := DataW.trod_struct Tryz.underlying33 h
  simp only [Prod.mk.injEq] at hx
  obtain ⟨rfl, _⟩ := hx
  have h1 := bulk_len (xs.map (·.1)) (fun x _ => bulk_pos x)
  rw [List.length_map, hl] at h1
  simp only [Rows.uptoBulk]
  simp at h1
  omega
theorem bulk_six {H : Type} : ∀ (l : List (DataW H)), (∀ x ∈ l, 6 ≤ Rows.uptoBulk x) → l.length * 6 ≤ Rows.uptoBulkAll l
  | [], _ => Nat.zero_le _
  | y :: r, h => by
    have h1 := h y (List.mem_cons_self ..)
    have h2 := bulk_six r fun x hx => h x (List.mem_cons_of_mem _ hx)
    simp only [Rows.uptoBulkAll, List.length_cons]; omega
set_option maxRecDepth 100000 in
theorem open_ops8 {H : Type} {enc : TypeId × Value → H} {W : World} {base : Nat} {v : Value} {d : DataW H} {p : List MemPlace}
    (hok : Value.okWide Tryz.prog W .any base 26 v) (h : DataW.Trod enc Tryz.prog W 0 (fun _ => true) true 26 v d p) :
    ∃ E : List Op5, ReO W v E ∧ (∀ x ∈ p, x.block < W.heap.size) ∧ E.length * 6 + 1 ≤ Rows.uptoBulk d ∧ txtS E ≤ Rows.uptoBulk d ∧ ∀ e ∈ E, e.t.size ≤ Rows.uptoBulk d ∧ e.v.2.2.size ≤ Rows.uptoBulk d ∧ e.A.length ≤ Rows.uptoBulk d ∧ ∀ q ∈ e.A, q.1.size ≤ Rows.uptoBulk d ∧ q.2.2.2.size ≤ Rows.uptoBulk d := by
  obtain ⟨a0, len0, cap0, rfl⟩ := okWide_slice Tryz.underlying26 hok
  obtain ⟨fuel, hf⟩ := h
  rcases Go.Deep.open_slice Tryz.underlying26 hf with ⟨hcs, hx⟩ | ⟨a, len, cap, m, n, D, Pl, hcs, _, hlc, _, hm, hx, hel⟩
  · have hcs' : a0 = none ∧ len0 = 0 ∧ cap0 = 0 := by simpa [Value.cells] using hcs
    obtain ⟨rfl, rfl, rfl⟩ := hcs'
    simp only [Prod.mk.injEq] at hx
    obtain ⟨rfl, rfl⟩ := hx
    exact ⟨[], ⟨[], RowO.nil _, .nil⟩, by simp, Nat.le_refl _, Nat.zero_le _, by simp⟩
  · have hcs' : a0 = some a ∧ len0 = len ∧ cap0 = cap := by simpa [Value.cells] using hcs
    obtain ⟨rfl, rfl, rfl⟩ := hcs'
    simp only [Prod.mk.injEq] at hx
    obtain ⟨rfl, rfl⟩ := hx
    simp only [if_true] at hm
    subst hm
    have six : ∀ i, i < m → 6 ≤ Rows.uptoBulk (D i) := fun i hi => by
      obtain ⟨cs', _, h2⟩ := hel i hi
      exact bulk_op h2
    have each : ∀ i, i < m → ∃ q : Op5 × Sl, (W.cell? (a.add (i * 7)) = some (.int .i64 q.1.k) ∧ W.cell? ((a.add (i * 7)).add 1) = some (.string q.1.t) ∧ W.cell? ((a.add (i * 7)).add 2) = some (.int .i64 q.1.v.1) ∧ W.cell? ((a.add (i * 7)).add 3) = some (.int .i64 q.1.v.2.1) ∧ W.cell? ((a.add (i * 7)).add 4) = some (.string q.1.v.2.2) ∧ W.cell? ((a.add (i * 7)).add 5) = some (.int .i64 q.1.c) ∧ W.cell? ((a.add (i * 7)).add 6) = some (slV q.2)) ∧ RN W (slV q.2) q.1.A ∧ (∀ x ∈ Pl i, x.block < W.heap.size) ∧ q.1.t.size ≤ Rows.uptoBulk (D i) ∧ q.1.v.2.2.size ≤ Rows.uptoBulk (D i) ∧ q.1.A.length ≤ Rows.uptoBulk (D i) ∧ ∀ x ∈ q.1.A, x.1.size ≤ Rows.uptoBulk (D i) ∧ x.2.2.2.size ≤ Rows.uptoBulk (D i) := by
      intro i hi
      obtain ⟨cs', h1, h2⟩ := hel i hi
      rw [cellsOp] at h1
      obtain ⟨_, hlen, hcell⟩ := World.cells?_some h1
      obtain ⟨o, s, hcs, hR, hP, b1, b2, b3, b4⟩ := trod_op hlen h2
      obtain ⟨x, rfl⟩ := rn_sl hR
      subst hcs
      have q0 := hcell 0 (by simp)
      have q1 := hcell 1 (by simp)
      have q2 := hcell 2 (by simp)
      have q3 := hcell 3 (by simp)
      have q4 := hcell 4 (by simp)
      have q5 := hcell 5 (by simp)
      have q6 := hcell 6 (by simp)
      exact ⟨(o, x), ⟨by simpa [Addr.add, opC] using q0, by simpa [Addr.add, opC] using q1, by simpa [Addr.add, opC] using q2, by simpa [Addr.add, opC] using q3, by simpa [Addr.add, opC] using q4, by simpa [Addr.add, opC] using q5, by simpa [Addr.add, opC] using q6⟩, hR, hP, b1, b2, b3, b4⟩
    haveI : Inhabited (Op5 × Sl) := ⟨(opZ, (none, 0, 0))⟩
    obtain ⟨q, hq⟩ := Go.Deep.choose_lt each
    have hb : ∀ i, i < len0 → Rows.uptoBulk (D i) ≤ Rows.uptoBulk (DataW.slice ((List.range len0).map D) ((List.range (m - len0)).map fun j => D (len0 + j))) := fun i hi => by
      have := bulk_mem ((List.range len0).map D) (D i) (List.mem_map.2 ⟨i, List.mem_range.2 hi, rfl⟩)
      simp only [Rows.uptoBulk]; omega
    have hspot : ∀ i, i < m → ∃ b off, a = ⟨b, off, none⟩ := fun i hi => by
      obtain ⟨b, off, spot⟩ := a
      have h00 := (hq 0 (by omega)).1.1
      have : spot = none := by simpa [Addr.add] using World.cell?_spot h00
      subst this
      exact ⟨b, off, rfl⟩
    refine ⟨(List.range len0).map fun i => (q i).1, ⟨(List.range len0).map fun i => ((q i).1.k, (q i).1.t, (q i).1.v, (q i).1.c, (q i).2), ⟨some a, m, by simp, by simpa using hlc, fun h => (by cases h), fun j d hd => ?_⟩, ?_⟩, fun x hx => ?_, ?_, ?_, fun e he => ?_⟩
    · have hj : j < len0 := by have := (List.getElem?_eq_some_iff.1 hd).1; simpa using this
      obtain rfl : _ = d := by simpa [hj] using hd
      obtain ⟨b, off, rfl⟩ := hspot j (by omega)
      obtain ⟨c0, c1, c2, c3, c4, c5, c6⟩ := (hq j (by omega)).1
      simp only [Addr.add_lit] at c0 c1 c2 c3 c4 c5 c6
      exact ⟨b, off, rfl, c0, c1, c2, c3, c4, c5, c6⟩
    · exact forall2_maps _ _ _ fun i hi => ⟨rfl, rfl, rfl, rfl, (hq i (by have := List.mem_range.1 hi; omega)).2.1⟩
    · rcases List.mem_append.1 hx with hx | hx
      · obtain ⟨i, hi, rfl⟩ := MemPlace.mem_row.1 hx
        rcases Nat.eq_zero_or_pos m with h0 | h0
        · rw [h0, Nat.zero_mul] at hi; omega
        have := lt_of_cell (hq 0 h0).1.1
        show a.block < W.heap.size
        simpa [Addr.add] using this
      · obtain ⟨i, hi, hx⟩ := List.mem_flatMap.1 hx
        exact (hq i (List.mem_range.1 hi)).2.2.1 x hx
    · have := bulk_six ((List.range len0).map D) (fun x hx => by obtain ⟨i, hi, rfl⟩ := List.mem_map.1 hx; exact six i (by have := List.mem_range.1 hi; omega))
      simp only [List.length_map, List.length_range] at this ⊢
      simp only [Rows.uptoBulk]; omega
    · have := txt_bulk (List.range len0) (fun i => (q i).1) D fun i hi => (hq i (by have := List.mem_range.1 hi; omega)).2.2.2.1
      simp only [Rows.uptoBulk]; omega
    · obtain ⟨i, hi, rfl⟩ := List.mem_map.1 he
      have hi' : i < len0 := List.mem_range.1 hi
      have h1 := hb i hi'
      obtain ⟨_, _, _, b1, b2, b3, b4⟩ := hq i (by omega)
      exact ⟨by omega, by omega, by omega, fun x hx => by have := b4 x hx; omega⟩
end Go.Proofs.YtalfdjglbbmjcaaGreatDoor

/- A builder in memory: what stands while it is written; the strings.Builder that it bears. -/
namespace Go.Proofs.YtalfdjglbbmjcaaGreatDoor
open Go Go.RowKit Go.Lib
set_option linter.unusedVariables false

/-- Below B the memory stands, and what D says but for rows of bytes, and all rows of pairs. -/
structure FrB (B : Nat) (D : Nat → Prop) (w w' : World) : Prop where
  below : Below B w w'
  kept : ∀ (k : Nat) (o : Obj), w.heap[k]? = some o → D k → (∀ c fz, o ≠ .cells c 5 fz) → w'.heap[k]? = some o
  keepA : KeepA w w'
theorem FrB.refl (B : Nat) (D : Nat → Prop) (w : World) : FrB B D w w := ⟨Below.refl _ _, fun _ _ h _ _ => h, fun _ _ h => rfl⟩
theorem FrB.trans {B : Nat} {D : Nat → Prop} {a b c : World} (h : FrB B D a b) (k : FrB B D b c) : FrB B D a c :=
  ⟨h.below.trans k.below, fun i o ho hd hn => k.kept i o (h.kept i o ho hd hn) hd hn, h.keepA.trans k.keepA⟩
theorem FrB.mono {B : Nat} {D D' : Nat → Prop} {w w' : World} (h : FrB B D w w') (hd : ∀ k, D' k → D k) : FrB B D' w w' := ⟨h.below, fun i o ho hk hn => h.kept i o ho (hd i hk) hn, h.keepA⟩
theorem FrB.low {B B' : Nat} {D : Nat → Prop} {w w' : World} (h : FrB B D w w') (hb : B' ≤ B) : FrB B' D w w' := ⟨h.below.mono hb, h.kept, h.keepA⟩
theorem FrB.of_below {B : Nat} {D : Nat → Prop} {w w' : World} (h : Below w.heap.size w w') (hB : B ≤ w.heap.size) : FrB B D w w' :=
  ⟨h.mono hB, fun k o ho _ _ => (h.block k (Array.getElem?_eq_some_iff.1 ho).1).trans ho, keepA_below h⟩
theorem FrB.drew {B : Nat} {D : Nat → Prop} {a w : World} (h : FrB B D a w) : FrB B D a w.drew := ⟨h.below.drew, h.kept, h.keepA⟩
theorem FrB.drewN {B : Nat} {D : Nat → Prop} {a w : World} (h : FrB B D a w) (n : Nat) : FrB B D a (w.drewN n) := ⟨below_drewN h.below n, h.kept, h.keepA⟩
theorem FrB.alloc {B : Nat} {D : Nat → Prop} {a w : World} (h : FrB B D a w) (hB : B ≤ w.heap.size) (o : Obj) : FrB B D a (w.alloc o) :=
  h.trans (.of_below ((Below.refl _ _).alloc (Nat.le_refl _) _) hB)
theorem FrB.setCell {B : Nat} {D : Nat → Prop} {a w : World} (h : FrB B D a w) {g j : Nat} {cs : Array Value} {T : TypeId} {fz : Nat × Nat} (hg : w.heap[g]? = some (.cells cs T fz)) (hT : T ≠ 160) (hB : B ≤ g) (hD : ¬ D g) (u : Value) : FrB B D a (w.setCell ⟨g, j, none⟩ u) := by
  refine h.trans ⟨(Below.refl _ _).setCell (p := ⟨g, j, none⟩) hB u, fun k o ho hd hn => ?_, fun k cur hk => ?_⟩
  · rw [Below.heap_setCell _ _ _ _ (by intro e; obtain rfl : k = g := e; exact hD hd)]; exact ho
  · refine Below.heap_setCell _ _ _ _ fun e => ?_
    obtain rfl : k = g := e
    rw [hg] at hk
    simp only [Option.some.injEq, Obj.cells.injEq] at hk
    exact hT hk.2.1
theorem FrB.grown {B : Nat} {D : Nat → Prop} {a w w' : World} {row : Option Nat} (h : FrB B D a w) (hg : w.grownBy w' row) (hB : B ≤ w.heap.size)
    (hr : ∀ k, row = some k → B ≤ k ∧ ∃ cs T fz, w.heap[k]? = some (.cells cs T fz) ∧ T ≠ 160 ∧ (D k → T = 5)) : FrB B D a w' := by
  refine h.trans ⟨(Below.refl _ _).grown hg hB (fun k hk => (hr k hk).1), fun k o ho hd hn => ?_, fun k cur hk => ?_⟩
  · refine (hg.block k (Array.getElem?_eq_some_iff.1 ho).1 fun e => ?_).trans ho
    obtain ⟨_, cs, T, fz, h1, _, h3⟩ := hr k e.symm
    rw [h1] at ho
    obtain rfl := Option.some.inj ho
    obtain rfl := h3 hd
    exact hn _ _ rfl
  · refine hg.block k (Array.getElem?_eq_some_iff.1 hk).1 fun e => ?_
    obtain ⟨_, cs, T, fz, h1, h2, _⟩ := hr k e.symm
    rw [h1] at hk
    simp only [Option.some.injEq, Obj.cells.injEq] at hk
    exact h2 hk.2.1
theorem heap_freeze (w : World) (p : Addr) (n k : Nat) (h : k ≠ p.block) : (w.freeze p n).heap[k]? = w.heap[k]? := by
  unfold World.freeze
  split
  · rfl
  · simp only [Array.getElem?_modify]
    rw [if_neg (fun e => h e.symm)]
theorem FrB.freeze {B : Nat} {D : Nat → Prop} {a w : World} (h : FrB B D a w) {g n : Nat} {cs : Array Value} {fz : Nat × Nat} (hg : w.heap[g]? = some (.cells cs 5 fz)) (hB : B ≤ g) : FrB B D a (w.freeze ⟨g, 0, none⟩ n) := by
  refine h.trans ⟨Lib.below_freeze (Below.refl B w) (p := ⟨g, 0, none⟩) hB _, fun k o ho hd hn => ?_, fun k cur hk => ?_⟩
  · refine (heap_freeze _ _ _ _ fun e => ?_).trans ho
    obtain rfl : k = g := e
    rw [hg] at ho
    obtain rfl := Option.some.inj ho
    exact hn _ _ rfl
  · refine heap_freeze _ _ _ _ fun e => ?_
    obtain rfl : k = g := e
    rw [hg] at hk
    simp only [Option.some.injEq, Obj.cells.injEq] at hk
    exact absurd hk.2.1 (by decide)

theorem infoU8 : ∃ i, Tryz.prog.info? 5 = some i ∧ i.zero = some (.int .u8 0) ∧ i.size = 1 ∧ i.bytes = 1 := by
  obtain ⟨i, hi, h⟩ := Option.map_eq_some_iff.1 (show (Tryz.prog.info? 5).map (fun i => (i.zero, i.size, i.bytes)) = some (some (.int .u8 0), 1, 1) by kernel_rfl)
  simp only [Prod.mk.injEq] at h
  exact ⟨i, hi, h.1, h.2.1, h.2.2⟩

/-- The six cells of a builder; the last two are its strings.Builder's, which holds l. -/
structure Sbd (w : World) (B g : Nat) (c0 c1 c2 c3 av jv : Value) (l : List UInt8) : Prop where
  lo : B ≤ g
  at_ : w.heap[g]? = some (.cells #[c0, c1, c2, c3, av, jv] 99 (0, 0))
  buf : w.ownsRowF B 5 1 jv l.length (byteCells l)
  adr : av = .pointer none ∨ av = .pointer (some ⟨g, 4, none⟩)
def SbE (w : World) (B g : Nat) (c0 c1 c2 c3 : Value) (l : List UInt8) : Prop := ∃ av jv, Sbd w B g c0 c1 c2 c3 av jv l
theorem Sbd.lt {w : World} {B g : Nat} {c0 c1 c2 c3 av jv : Value} {l : List UInt8} (h : Sbd w B g c0 c1 c2 c3 av jv l) : g < w.heap.size := (Array.getElem?_eq_some_iff.1 h.at_).1
theorem Sbd.ne {w : World} {B g : Nat} {c0 c1 c2 c3 av jv : Value} {l : List UInt8} (h : Sbd w B g c0 c1 c2 c3 av jv l) : jv.ownBlock ≠ some g := ownBlock_neF h.buf h.at_ (by decide)
theorem rowF_same {w w' : World} {B : Nat} {e : TypeId} {v : Value} {n : Nat} {xs : List Value} (h : w.ownsRowF B e 1 v n xs) (hk : ∀ k, v.ownBlock = some k → w'.heap[k]? = w.heap[k]?) : w'.ownsRowF B e 1 v n xs := by
  refine ⟨h.1, ?_⟩
  rcases h.2 with hn | ⟨g, cap, cur, fz, rfl, hb, hgg, rest⟩
  · exact .inl hn
  · exact .inr ⟨g, cap, cur, fz, rfl, hb, (hk g rfl).trans hgg, rest⟩
theorem Sbd.set4 {w : World} {B g : Nat} {c0 c1 c2 c3 av jv : Value} {l : List UInt8} (h : Sbd w B g c0 c1 c2 c3 av jv l) (q : Value) (hq : q = .pointer none ∨ q = .pointer (some ⟨g, 4, none⟩)) : Sbd (w.setCell ⟨g, 4, none⟩ q) B g c0 c1 c2 c3 q jv l :=
  ⟨h.lo, by rw [heap_set_at _ _ _ _ _ _ _ h.at_]; rfl, rowF_same h.buf fun k hk => Below.heap_setCell _ _ _ _ (fun e => h.ne (by rw [hk, e])), hq⟩
theorem Sbd.set5 {w : World} {B g : Nat} {c0 c1 c2 c3 av jv jv' : Value} {l' : List UInt8} (hlo : B ≤ g) (hat : w.heap[g]? = some (.cells #[c0, c1, c2, c3, av, jv] 99 (0, 0))) (hbuf : w.ownsRowF B 5 1 jv' l'.length (byteCells l')) (hadr : av = .pointer none ∨ av = .pointer (some ⟨g, 4, none⟩)) : Sbd (w.setCell ⟨g, 5, none⟩ jv') B g c0 c1 c2 c3 av jv' l' :=
  ⟨hlo, by rw [heap_set_at _ _ _ _ _ _ _ hat]; rfl, rowF_same hbuf fun k hk => Below.heap_setCell _ _ _ _ (fun e => ownBlock_neF hbuf hat (by decide) (by rw [hk, e])), hadr⟩
theorem strCells_byte (s : ByteArray) : strCells s = byteCells s.data.toList := rfl

set_option maxHeartbeats 1000000 in
theorem sbLen_any (B g : Nat) (c0 c1 c2 c3 : Value) (l : List UInt8) (w : World) (h : SbE w B g c0 c1 c2 c3 l) :
    Calls Tryz.prog 165 #[.pointer (some ⟨g, 4, none⟩)] w fun e w' => e = .returned (.int .i64 l.length) ∧ w' = w := by
  obtain ⟨av, jv, h⟩ := h
  obtain ⟨p, n, cap, rfl, hn⟩ : ∃ p n cap, jv = .slice p n cap ∧ n = l.length := by
    rcases h.buf.2 with ⟨rfl, h0⟩ | ⟨g', cap, cur, fz, rfl, _⟩
    · exact ⟨none, 0, 0, rfl, h0.symm⟩
    · exact ⟨_, _, _, rfl, rfl⟩
  have c5 : w.cell? ⟨g, 5, none⟩ = some (.slice p n cap) := by rw [cell_of_heap h.at_]; rfl
  rw [← hn]
  clear h hn
  go_enter Tryz.func165, Tryz.ntmps165
  go_wp2
  go_ret
  exact ⟨rfl, rfl⟩
set_option maxHeartbeats 1000000 in
set_option maxRecDepth 100000 in
theorem sbCheck_any (B g : Nat) (c0 c1 c2 c3 : Value) (l : List UInt8) (w : World) (h : SbE w B g c0 c1 c2 c3 l) :
    Calls Tryz.prog 174 #[.pointer (some ⟨g, 4, none⟩)] w fun e w' => e = .returned (.tuple #[]) ∧ (∃ jv, Sbd w' B g c0 c1 c2 c3 (.pointer (some ⟨g, 4, none⟩)) jv l) ∧ FrB B (fun k => k ≠ g) w w' := by
  obtain ⟨av, jv, h⟩ := h
  have c4 : w.cell? ⟨g, 4, none⟩ = some av := by rw [cell_of_heap h.at_]; rfl
  have f4 : w.frozen? ⟨g, 4, none⟩ = false := frozen_of_heap h.at_ 4
  have HF : Hid (FrB B (fun k => k ≠ g) w (w.setCell ⟨g, 4, none⟩ (.pointer (some ⟨g, 4, none⟩)))) := (FrB.refl _ _ w).setCell h.at_ (by decide) h.lo (by simp) _
  have HS : Hid (Sbd (w.setCell ⟨g, 4, none⟩ (.pointer (some ⟨g, 4, none⟩))) B g c0 c1 c2 c3 (.pointer (some ⟨g, 4, none⟩)) jv l) := h.set4 _ (Or.inr rfl)
  have hsh : w.shape? g = some (99, 6) := by simp [World.shape?, h.at_]
  obtain ⟨j, hj, hjs⟩ := Option.map_eq_some_iff.1 (show (Tryz.prog.info? 97).map (·.size) = some 2 by kernel_rfl)
  rcases h.adr with rfl | rfl
  · clear h
    go_enter Tryz.func174, Tryz.ntmps174
    go_wp2
    rw [Lib.run_to_unsafe w ⟨g, 4, none⟩ Tryz.underlying94 Tryz.underlying234 hj (by rw [hjs]; decide) hsh (by decide : 4 < 6)]
    simp only [Result.andThen]
    rw [Oper.upon_value]
    go_wp2
    rw [run_callFunc_extern Tryz.func178 (by kernel_rfl) (by kernel_rfl) (by kernel_rfl) (e := Extern.AbiNoEscape.same) (by kernel_rfl)]
    rw [Lib.run_noEscape]
    simp only [Result.andThen]
    rw [Oper.upon_value]
    go_wp2
    rw [Lib.run_from_unsafe w ⟨g, 4, none⟩ Tryz.underlying234 Tryz.underlying94 hj hsh (by kernel_rfl)]
    simp only [Result.andThen]
    rw [Oper.upon_value]
    go_wp2
    go_end0
    exact ⟨rfl, ⟨jv, HS.out⟩, HF.out⟩
  · have HS2 : Hid (Sbd w B g c0 c1 c2 c3 (.pointer (some ⟨g, 4, none⟩)) jv l) := h
    clear h
    go_enter Tryz.func174, Tryz.ntmps174
    go_wp2
    rw [Lib.run_neq_ptr_same w _ Tryz.underlying94 hj]
    go_wp2
    go_end0
    exact ⟨rfl, ⟨jv, HS2.out⟩, FrB.refl _ _ _⟩
set_option maxHeartbeats 2000000 in
set_option maxRecDepth 100000 in
theorem sbWrite_any (B g : Nat) (c0 c1 c2 c3 : Value) (l : List UInt8) (s : ByteArray) (w : World) (h : SbE w B g c0 c1 c2 c3 l) (hlen : l.length + s.size ≤ 140737488355328) (hBw : B ≤ w.heap.size) :
    Calls Tryz.prog 166 #[.pointer (some ⟨g, 4, none⟩), .string s] w fun e w' => e = .returned (.tuple #[.int .i64 s.size, .nilIface]) ∧ SbE w' B g c0 c1 c2 c3 (l ++ s.data.toList) ∧ FrB B (fun k => k ≠ g) w w' := by
  obtain ⟨i0, hi, hz0, hz1, hz2⟩ := infoU8
  have cc := sbCheck_any B g c0 c1 c2 c3 l w h
  clear h
  go_enter Tryz.func166, Tryz.ntmps166
  go_wp2_with fail
  refine cc.mono ?_; rintro e w1 ⟨rfl, ⟨jv, h1⟩, hf1⟩
  have c5 : w1.cell? ⟨g, 5, none⟩ = some jv := by rw [cell_of_heap h1.at_]; rfl
  have HH : Hid (Sbd w1 B g c0 c1 c2 c3 (.pointer (some ⟨g, 4, none⟩)) jv l ∧ FrB B (fun k => k ≠ g) w w1) := ⟨h1, hf1⟩
  clear cc h1 hf1
  go_wp2_with (at_builtin; refine Lib.wpList_append_own_stringF _ rfl _ _ 95 9 rfl B 5 i0 Tryz.underlying95 Tryz.underlying9 hi hz0 hz1 hz2 _ _ _ rfl HH.out.1.buf s rfl ?c3 ?c4 ?c5 ?_)
  case c3 => unfold maxLen; omega
  case c4 => omega
  case c5 => exact Nat.le_trans hBw HH.out.2.below.size
  intro v' w2 hown' hgrow _
  obtain ⟨h1, hf1⟩ := HH.out
  have hb2 : w2.heap[g]? = some (.cells #[c0, c1, c2, c3, .pointer (some ⟨g, 4, none⟩), jv] 99 (0, 0)) := by
    rw [hgrow.block g h1.lt (fun e => h1.ne e.symm)]
    exact h1.at_
  have d5 : w2.cell? ⟨g, 5, none⟩ = some jv := by rw [cell_of_heap hb2]; rfl
  have f5 : w2.frozen? ⟨g, 5, none⟩ = false := frozen_of_heap hb2 5
  obtain ⟨ao, n', cap, rfl⟩ : ∃ ao n' cap, v' = .slice ao n' cap := by
    rcases hown'.2 with ⟨hv, _⟩ | ⟨g', cap, cur, fz, hv, _⟩
    · exact ⟨_, _, _, hv⟩
    · exact ⟨_, _, _, hv⟩
  have HS : Hid (Sbd (w2.setCell ⟨g, 5, none⟩ (.slice ao n' cap)) B g c0 c1 c2 c3 (.pointer (some ⟨g, 4, none⟩)) (.slice ao n' cap) (l ++ s.data.toList)) := by
    refine Sbd.set5 h1.lo hb2 ?_ (Or.inr rfl)
    have e1 : byteCells (l ++ s.data.toList) = byteCells l ++ strCells s := by rw [strCells_byte]; simp [byteCells]
    rw [e1, List.length_append, size_toList]
    exact hown'
  have HF : Hid (FrB B (fun k => k ≠ g) w (w2.setCell ⟨g, 5, none⟩ (.slice ao n' cap))) := by
    refine (hf1.grown hgrow (Nat.le_trans hBw hf1.below.size) fun k hk => ?_).setCell hb2 (by decide) h1.lo (by simp) _
    obtain ⟨c, fz, hc⟩ := ownsRowF_kind h1.buf k hk
    exact ⟨(h1.buf.lt k hk).1, c, _, fz, hc, by decide, fun _ => rfl⟩
  clear HH h1 hf1 hb2 hown' hgrow c5
  go_wp2
  go_ret2
  exact ⟨rfl, ⟨_, _, HS.out⟩, HF.out⟩
set_option maxHeartbeats 2000000 in
set_option maxRecDepth 100000 in
theorem sbReset_any (B g : Nat) (c0 c1 c2 c3 : Value) (l : List UInt8) (w : World) (h : SbE w B g c0 c1 c2 c3 l) :
    Calls Tryz.prog 141 #[.pointer (some ⟨g, 4, none⟩)] w fun e w' => e = .returned (.tuple #[]) ∧ SbE w' B g c0 c1 c2 c3 [] ∧ FrB B (fun k => k ≠ g) w w' := by
  obtain ⟨av, jv, h⟩ := h
  have c4 : w.cell? ⟨g, 4, none⟩ = some av := by rw [cell_of_heap h.at_]; rfl
  have c5 : w.cell? ⟨g, 5, none⟩ = some jv := by rw [cell_of_heap h.at_]; rfl
  have f4 : w.frozen? ⟨g, 4, none⟩ = false := frozen_of_heap h.at_ 4
  have f5 : w.frozen? ⟨g, 5, none⟩ = false := frozen_of_heap h.at_ 5
  have h4 := h.set4 (.pointer none) (Or.inl rfl)
  have HS : Hid (Sbd ((w.setCell ⟨g, 4, none⟩ (.pointer none)).setCell ⟨g, 5, none⟩ (.slice none 0 0)) B g c0 c1 c2 c3 (.pointer none) (.slice none 0 0) []) := Sbd.set5 h.lo h4.at_ (World.ownsRowF_nil _ _ _ _) (Or.inl rfl)
  have HF : Hid (FrB B (fun k => k ≠ g) w ((w.setCell ⟨g, 4, none⟩ (.pointer none)).setCell ⟨g, 5, none⟩ (.slice none 0 0))) := ((FrB.refl _ _ w).setCell h.at_ (by decide) h.lo (by simp) _).setCell h4.at_ (by decide) h.lo (by simp) _
  clear h h4
  go_enter Tryz.func141, Tryz.ntmps141
  go_wp2
  go_end0
  exact ⟨rfl, ⟨_, _, HS.out⟩, HF.out⟩
set_option maxHeartbeats 2000000 in
set_option maxRecDepth 100000 in
theorem sbString_any (B g : Nat) (c0 c1 c2 c3 : Value) (l : List UInt8) (w : World) (h : SbE w B g c0 c1 c2 c3 l) (h0 : l ≠ []) :
    Calls Tryz.prog 167 #[.pointer (some ⟨g, 4, none⟩)] w fun e w' => e = .returned (.string ⟨l.toArray⟩) ∧ SbE w' B g c0 c1 c2 c3 l ∧ FrB B (fun k => k ≠ g) w w' := by
  obtain ⟨av, jv, h⟩ := h
  have hl0 : l.length ≠ 0 := by simpa using h0
  obtain ⟨r, cap, cur, fz, rfl, hbg, hg, hfz, hnc, hcm, hcs, htake⟩ : ∃ r cap cur fz, jv = .slice (some ⟨r, 0, none⟩) l.length cap ∧ B ≤ r ∧ w.heap[r]? = some (.cells cur 5 fz) ∧ fz.2 ≤ l.length * 1 ∧ l.length ≤ cap ∧ cap ≤ maxLen ∧ cur.size = cap * 1 ∧ cur.toList.take (l.length * 1) = byteCells l := by
    rcases h.buf.2 with ⟨_, hz⟩ | ⟨g', cap, cur, fz, hv, r⟩
    · exact absurd hz hl0
    · exact ⟨g', cap, cur, fz, hv, r⟩
  have c5 : w.drew.cell? ⟨g, 5, none⟩ = some (.slice (some ⟨r, 0, none⟩) l.length cap) := by
    have : w.drew.heap[g]? = _ := h.at_
    rw [cell_of_heap this]; rfl
  have hrg : r ≠ g := fun e => h.ne (by simp [Value.ownBlock, e])
  have hSD : (Builtin.unsafeSliceData_ #[95] 230 #[.slice (some ⟨r, 0, none⟩) l.length cap]).run Tryz.prog w.drew = .ok (.pointer (some ⟨r, 0, none⟩)) w.drew :=
    Lib.run_unsafeSliceData_row _ _ _ _ _ _ (by omega)
  have hcells : Tryz.prog.cellsOf 5 = 1 := by kernel_rfl
  have hUS : (Builtin.unsafeString_ #[230, 3] 9 #[.pointer (some ⟨r, 0, none⟩), .int .i64 l.length]).run Tryz.prog w.drew = .ok (.string ⟨l.toArray⟩) (w.drew.freeze ⟨r, 0, none⟩ l.length) := by
    refine Lib.run_unsafeString_row w.drew 230 3 9 5 Tryz.underlying230 hcells r cur.size (by have hg' : w.drew.heap[r]? = some (.cells cur 5 fz) := hg; simp [World.shape?, hg']) l h0 (by omega) (by unfold maxLen at hcm; omega) ?_
    intro j x hx
    have := h.buf.cells (g := r) rfl j (.int .u8 x.toNat) (by simp [byteCells, hx])
    exact this
  have HS : Hid (Sbd (w.drew.freeze ⟨r, 0, none⟩ l.length) B g c0 c1 c2 c3 av (.slice (some ⟨r, 0, none⟩) l.length cap) l) := by
    refine ⟨h.lo, (heap_freeze _ _ _ _ (fun e => hrg e.symm)).trans h.at_, ⟨h.buf.1, ?_⟩, h.adr⟩
    unfold World.freeze
    rw [if_neg (by simpa using hl0)]
    obtain ⟨lo, hi⟩ := fz
    refine .inr ⟨r, _, cur, (if lo == hi then (0, 0 + l.length) else (min lo 0, max hi (0 + l.length))), rfl, hbg, ?_, ?_, hnc, hcm, hcs, htake⟩
    · have hg' : w.drew.heap[r]? = some (.cells cur 5 (lo, hi)) := hg
      simp [Array.getElem?_modify, hg']
    · simp only at hfz
      split <;> simp <;> omega
  have HF : Hid (FrB B (fun k => k ≠ g) w (w.drew.freeze ⟨r, 0, none⟩ l.length)) := (FrB.refl _ _ w).drew.freeze (w := w.drew) (cs := cur) (fz := fz) hg hbg
  clear h hg hfz hnc hcm hcs htake hbg
  go_enter Tryz.func167, Tryz.ntmps167
  go_wp2
  go_region
  all_goals (go_wp2; go_ret; exact ⟨rfl, ⟨_, _, HS.out⟩, HF.out⟩)
end Go.Proofs.YtalfdjglbbmjcaaGreatDoor

/- build: last, grow, joinText, join: the builder's own parts. -/
namespace Go.Proofs.YtalfdjglbbmjcaaGreatDoor
open Go Go.RowKit Go.Lib
set_option linter.unusedVariables false

theorem last_nil (p : Option Addr) (c : Nat) (w : World) : Calls Tryz.prog 58 #[.slice p 0 c] w fun e w' => e = .returned .nilIface ∧ w' = w := by
  go_enter Tryz.func58, Tryz.ntmps58
  go_wp2
  go_ret
  exact ⟨rfl, rfl⟩
set_option maxHeartbeats 1000000 in
theorem last_one (v : Value) (FL : List Value) (x : Value) (B : Nat) (w : World) (hv : w.ownsRow B 56 1 v (FL ++ [x]).length (FL ++ [x])) (hl : FL.length ≤ 4194304) :
    Calls Tryz.prog 58 #[v] w fun e w' => e = .returned x ∧ w' = w := by
  obtain ⟨g, c, y, rfl, _, hy, hc⟩ := own_cell hv FL.length (by simp)
  have hy' : (FL ++ [x])[FL.length]? = some x := by simp
  obtain rfl : x = y := Option.some.inj (hy'.symm.trans hy)
  obtain ⟨n, hn⟩ : ∃ n, FL.length = n := ⟨_, rfl⟩
  have hn' : (FL ++ [x]).length = n + 1 := by simp [hn]
  rw [hn] at hc hl
  rw [hn']
  clear hv hy hy' hn hn'
  have hz : (((n + 1 : Nat) : Int) == 0) = false := by rw [beq_eq_false_iff_ne]; omega
  have hd : ((n + 1 : Nat) : Int) - 1 = (n : Int) := by omega
  go_enter Tryz.func58, Tryz.ntmps58
  go_wp2
  go_ret
  exact ⟨rfl, rfl⟩

/-- A text as bytes. -/
theorem cat_arr (a b : ByteArray) : (⟨(a.data.toList ++ b.data.toList).toArray⟩ : ByteArray) = a ++ b := by
  apply ByteArray.ext
  simp
set_option maxHeartbeats 2000000 in
set_option maxRecDepth 100000 in
theorem joinText_any (B g : Nat) (c0 c1 c2 c3 : Value) (l : List UInt8) (a b : ByteArray) (w : World) (h : SbE w B g c0 c1 c2 c3 l) (hl : l = [] ∨ l = a.data.toList) (ha : 0 < a.size) (hab : a.size + b.size ≤ 16777216) (hBw : B ≤ w.heap.size) :
    Calls Tryz.prog 155 #[.pointer (some ⟨g, 0, none⟩), .string a, .string b] w fun e w' => e = .returned (.string (a ++ b)) ∧ SbE w' B g c0 c1 c2 c3 (a ++ b).data.toList ∧ FrB B (fun k => k ≠ g) w w' := by
  have cL := sbLen_any B g c0 c1 c2 c3 l w h
  have hcat : (a ++ b).data.toList = a.data.toList ++ b.data.toList := cat_list a b
  have hne : a.data.toList ++ b.data.toList ≠ [] := by
    intro e
    have e2 := congrArg List.length e
    rw [List.length_append, size_toList, size_toList, List.length_nil] at e2
    omega
  have cS : Hid (∀ W, SbE W B g c0 c1 c2 c3 (a.data.toList ++ b.data.toList) → Calls Tryz.prog 167 #[.pointer (some ⟨g, 4, none⟩)] W fun e w' => e = .returned (.string (a ++ b)) ∧ SbE w' B g c0 c1 c2 c3 (a.data.toList ++ b.data.toList) ∧ FrB B (fun k => k ≠ g) W w') := fun W hW => by
    have := sbString_any B g c0 c1 c2 c3 _ W hW hne
    rw [cat_arr] at this
    exact this
  have cW : Hid (∀ W, SbE W B g c0 c1 c2 c3 a.data.toList → B ≤ W.heap.size → Calls Tryz.prog 166 #[.pointer (some ⟨g, 4, none⟩), .string b] W fun e w' => e = .returned (.tuple #[.int .i64 b.size, .nilIface]) ∧ SbE w' B g c0 c1 c2 c3 (a.data.toList ++ b.data.toList) ∧ FrB B (fun k => k ≠ g) W w') := fun W hW hB =>
    sbWrite_any B g c0 c1 c2 c3 a.data.toList b W hW (by rw [size_toList]; omega) hB
  have HC : Hid ((a ++ b).data.toList = a.data.toList ++ b.data.toList) := hcat
  by_cases hz : l = []
  · subst hz
    have c1' : Hid (Calls Tryz.prog 166 #[.pointer (some ⟨g, 4, none⟩), .string a] w fun e w' => e = .returned (.tuple #[.int .i64 a.size, .nilIface]) ∧ SbE w' B g c0 c1 c2 c3 a.data.toList ∧ FrB B (fun k => k ≠ g) w w') := by
      have := sbWrite_any B g c0 c1 c2 c3 [] a w h (by simp only [List.length_nil]; omega) hBw
      rw [List.nil_append] at this
      exact this
    have HB : Hid (B ≤ w.heap.size) := hBw
    clear h hl hne hcat hBw
    go_enter Tryz.func155, Tryz.ntmps155
    go_wp2_with fail
    refine cL.mono ?_; rintro e w1 ⟨rfl, rfl⟩
    go_wp2_with fail
    refine c1'.out.mono ?_; rintro e w2 ⟨rfl, h2, f2⟩
    have c3' := cW.out w2 h2 (Nat.le_trans HB.out f2.below.size)
    have F2 : Hid (FrB B (fun k => k ≠ g) _ w2) := f2
    clear cL c1' h2 f2
    go_wp2_with fail
    refine c3'.mono ?_; rintro e w3 ⟨rfl, h3, f3⟩
    have c4' := cS.out w3 h3
    have F3 : Hid (FrB B (fun k => k ≠ g) _ w3) := F2.out.trans f3
    clear c3' h3 f3 F2
    go_wp2_with fail
    refine c4'.mono ?_; rintro e w4 ⟨rfl, h4, f4⟩
    have F4 : Hid (SbE w4 B g c0 c1 c2 c3 (a ++ b).data.toList ∧ FrB B (fun k => k ≠ g) _ w4) := ⟨by rw [HC.out]; exact h4, F3.out.trans f4⟩
    clear c4' h4 f4 F3
    go_wp2
    go_ret
    exact ⟨rfl, F4.out⟩
  · have hl2 : l = a.data.toList := hl.resolve_left hz
    subst hl2
    have hnz : ((a.data.toList.length : Int) == 0) = false := by rw [beq_eq_false_iff_ne, size_toList]; omega
    have c3' := cW.out w h hBw
    clear h hl hne hcat hz cW
    go_enter Tryz.func155, Tryz.ntmps155
    go_wp2_with fail
    refine cL.mono ?_; rintro e w1 ⟨rfl, rfl⟩
    go_wp2_with fail
    refine c3'.mono ?_; rintro e w3 ⟨rfl, h3, f3⟩
    have c4' := cS.out w3 h3
    have F3 : Hid (FrB B (fun k => k ≠ g) _ w3) := f3
    clear c3' h3 f3 cL
    go_wp2_with fail
    refine c4'.mono ?_; rintro e w4 ⟨rfl, h4, f4⟩
    have F4 : Hid (SbE w4 B g c0 c1 c2 c3 (a ++ b).data.toList ∧ FrB B (fun k => k ≠ g) _ w4) := ⟨by rw [HC.out]; exact h4, F3.out.trans f4⟩
    clear c4' h4 f4 F3
    go_wp2
    go_ret
    exact ⟨rfl, F4.out⟩
end Go.Proofs.YtalfdjglbbmjcaaGreatDoor

/- build: join: the last piece and another as one. -/
namespace Go.Proofs.YtalfdjglbbmjcaaGreatDoor
open Go Go.RowKit Go.Lib
set_option linter.unusedVariables false

/-- May two operations be joined by the builder? -/
def joinsB (x o : Op5) : Prop := x.k = o.k ∧ (o.k = 1 ∨ o.k = 3) ∧ x.A = o.A
instance (x o : Op5) : Decidable (joinsB x o) := by unfold joinsB; infer_instance
theorem push_no {F : List Op5} {x o : Op5} (h : ¬ joinsB x o) (h4 : x.k ≠ 4 ∨ o.k ≠ 4) (hk : o.k = 1 ∨ o.k = 2 ∨ o.k = 3 ∨ o.k = 4) : pushL (F ++ [x]) o = F ++ [x] ++ [o] := by
  refine push_apart ?_
  by_cases h1 : x.k ≠ o.k
  · exact Or.inl h1
  · by_cases h2 : o.k = 2
    · exact Or.inr (Or.inl h2)
    · refine Or.inr (Or.inr fun e => h ⟨by omega, by omega, e⟩)
theorem push_yes {F : List Op5} {x o : Op5} (h : joinsB x o) : pushL (F ++ [x]) o = F ++ [jnO x o] := by
  obtain ⟨h1, h2, h3⟩ := h
  refine push_join ?_
  rintro (e | e | e)
  · exact e h1
  · omega
  · exact e h3
theorem forall2_unappend {α β : Type} {R : α → β → Prop} : ∀ {a c : List α} {b d : List β}, a.length = b.length → All2 R (a ++ c) (b ++ d) → All2 R a b ∧ All2 R c d
  | [], c, [], d, _, h => ⟨.nil, h⟩
  | x :: a, c, y :: b, d, e, h => by
    cases h with
    | cons h1 h2 =>
      obtain ⟨p, q⟩ := forall2_unappend (by simpa using e) h2
      exact ⟨.cons h1 p, q⟩
/-- A row of pieces' last piece. -/
theorem pie_last {w : World} {B : Nat} {PL : List Value} {F : List Op5} {x : Op5} (h : PieD w B PL (F ++ [x])) : ∃ FL s, PL = FL ++ [pieceQ x s] ∧ PieD w B FL F ∧ OwnA w B s x.A := by
  have hl := forall2_len h
  rcases List.eq_nil_or_concat PL with rfl | ⟨FL, y, rfl⟩
  · simp at hl
  · rw [List.concat_eq_append] at h hl ⊢
    have hl' : FL.length = F.length := by simpa using hl
    obtain ⟨h1, h2⟩ := forall2_unappend hl' h
    cases h2 with
    | cons a _ =>
      obtain ⟨s, rfl, hs⟩ := a
      exact ⟨FL, s, rfl, h1, hs⟩

theorem SbE.below {w w' : World} {B g : Nat} {c0 c1 c2 c3 : Value} {l : List UInt8} (h : SbE w B g c0 c1 c2 c3 l) (b : Below w.heap.size w w') : SbE w' B g c0 c1 c2 c3 l := by
  obtain ⟨av, jv, h⟩ := h
  exact ⟨av, jv, h.lo, (b.block g h.lt).trans h.at_, rowF_same h.buf fun k hk => b.block k (h.buf.lt k hk).2, h.adr⟩
theorem SbE.set_other {w : World} {B g : Nat} {c0 c1 c2 c3 : Value} {l : List UInt8} (h : SbE w B g c0 c1 c2 c3 l) {k j : Nat} {cs : Array Value} {T : TypeId} {fz : Nat × Nat} (hk : w.heap[k]? = some (.cells cs T fz)) (h1 : T ≠ 99) (h2 : T ≠ 5) (u : Value) : SbE (w.setCell ⟨k, j, none⟩ u) B g c0 c1 c2 c3 l := by
  obtain ⟨av, jv, h⟩ := h
  refine ⟨av, jv, h.lo, (Below.heap_setCell _ _ _ _ fun e => ?_).trans h.at_, rowF_same h.buf fun i hi => Below.heap_setCell _ _ _ _ fun e => ?_, h.adr⟩
  · obtain rfl : g = k := e
    rw [h.at_] at hk
    simp only [Option.some.injEq, Obj.cells.injEq] at hk
    exact h1 hk.2.1.symm
  · obtain rfl : i = k := e
    obtain ⟨c, fz', hc⟩ := ownsRowF_kind h.buf i hi
    rcases h.buf.2 with ⟨rfl, _⟩ | ⟨g', cap, cur, fz'', rfl, _, hgg, _⟩
    · cases hi
    · simp only [Value.ownBlock, Option.some.injEq] at hi
      obtain rfl : g' = i := hi
      rw [hgg] at hk
      simp only [Option.some.injEq, Obj.cells.injEq] at hk
      exact h2 hk.2.1.symm

set_option maxHeartbeats 4000000 in
set_option maxRecDepth 100000 in
theorem join_nil {B g : Nat} {c0 c1 c3 : Value} {p : Option Addr} {c : Nat} {l : List UInt8} (y : Value) (w : World) (h : SbE w B g c0 c1 (.slice p 0 c) c3 l) :
    Calls Tryz.prog 140 #[.pointer (some ⟨g, 0, none⟩), y] w fun e w' => e = .returned (.tuple #[.nilIface, .bool false]) ∧ Below w.heap.size w w' := by
  obtain ⟨av, jv, h⟩ := h
  have c2 : w.cell? ⟨g, 2, none⟩ = some (.slice p 0 c) := by rw [cell_of_heap h.at_]; rfl
  have cl := last_nil p c w
  have a1 : (Instr.typeAssert .nilIface 56 180 true).run Tryz.prog w = .ok (.tuple #[.agg #[.slice none 0 0, .string ⟨#[]⟩, .int .i64 0], .bool false]) w := by kernel_rfl
  have a2 : (Instr.typeAssert .nilIface 56 157 true).run Tryz.prog w = .ok (.tuple #[.agg #[.slice none 0 0, .int .i64 0], .bool false]) w := by kernel_rfl
  clear h
  go_enter Tryz.func140, Tryz.ntmps140
  go_wp2_with fail
  refine cl.mono ?_; rintro e w1 ⟨rfl, rfl⟩
  clear cl
  go_wp2
  go_ret2
  exact ⟨rfl, Below.refl _ _⟩
set_option maxHeartbeats 4000000 in
set_option maxRecDepth 100000 in
theorem join_no12 {B g : Nat} {c0 c1 pv c3 : Value} {l : List UInt8} (x o : Op5) (s sv : Value) (FL : List Value) (w : World) (h : SbE w B g c0 c1 pv c3 l) (hrow : w.ownsRow B 56 1 pv (FL ++ [pieceQ x s]).length (FL ++ [pieceQ x s])) (hlen : FL.length ≤ 4194304) (hs : ∃ p n c, s = .slice p n c) (hx : x.k = 1) (ho : o.k = 2) :
    Calls Tryz.prog 140 #[.pointer (some ⟨g, 0, none⟩), pieceQ o sv] w fun e w' => e = .returned (.tuple #[.nilIface, .bool false]) ∧ Below w.heap.size w w' := by
  obtain ⟨p1, l1, q1, rfl⟩ := hs
  have cl := last_one pv FL (pieceQ x (.slice p1 l1 q1)) B w hrow hlen
  obtain ⟨p, cap, hpv⟩ := own_slice hrow
  obtain ⟨av, jv, hs0⟩ := h
  have c2 : w.cell? ⟨g, 2, none⟩ = some pv := by rw [cell_of_heap hs0.at_]; rfl
  obtain ⟨nx, hnx⟩ : ∃ z : Int, ((scs x.t.data.toList).length : Int) = z := ⟨_, rfl⟩
  obtain ⟨tx, htx⟩ : ∃ z, x.t = z := ⟨_, rfl⟩
  obtain ⟨Vo, hVo⟩ : ∃ V, valP o.v = V := ⟨_, rfl⟩
  obtain ⟨tO, htO⟩ : ∃ z, o.t = z := ⟨_, rfl⟩
  rw [pieceQ_1 hx, hnx, htx] at cl
  rw [pieceQ_2 ho, hVo, htO]
  clear hs0 hrow hx ho hpv hnx htx hVo htO
  have a0 := as_i_i
  have a1 := as_e_i
  go_enter Tryz.func140, Tryz.ntmps140
  go_wp2_with fail
  refine cl.mono ?_; rintro e w1 ⟨rfl, rfl⟩
  clear cl
  go_wp2
  go_ret2
  exact ⟨rfl, by go_grown⟩
set_option maxHeartbeats 4000000 in
set_option maxRecDepth 100000 in
theorem join_no13 {B g : Nat} {c0 c1 pv c3 : Value} {l : List UInt8} (x o : Op5) (s sv : Value) (FL : List Value) (w : World) (h : SbE w B g c0 c1 pv c3 l) (hrow : w.ownsRow B 56 1 pv (FL ++ [pieceQ x s]).length (FL ++ [pieceQ x s])) (hlen : FL.length ≤ 4194304) (hs : ∃ p n c, s = .slice p n c) (hx : x.k = 1) (ho : o.k = 3) :
    Calls Tryz.prog 140 #[.pointer (some ⟨g, 0, none⟩), pieceQ o sv] w fun e w' => e = .returned (.tuple #[.nilIface, .bool false]) ∧ Below w.heap.size w w' := by
  obtain ⟨p1, l1, q1, rfl⟩ := hs
  have cl := last_one pv FL (pieceQ x (.slice p1 l1 q1)) B w hrow hlen
  obtain ⟨p, cap, hpv⟩ := own_slice hrow
  obtain ⟨av, jv, hs0⟩ := h
  have c2 : w.cell? ⟨g, 2, none⟩ = some pv := by rw [cell_of_heap hs0.at_]; rfl
  obtain ⟨nx, hnx⟩ : ∃ z : Int, ((scs x.t.data.toList).length : Int) = z := ⟨_, rfl⟩
  obtain ⟨tx, htx⟩ : ∃ z, x.t = z := ⟨_, rfl⟩
  obtain ⟨co, hco⟩ : ∃ z, o.c = z := ⟨_, rfl⟩
  rw [pieceQ_1 hx, hnx, htx] at cl
  rw [pieceQ_3 ho, hco]
  clear hs0 hrow hx ho hpv hnx htx hco
  have a0 := as_i_i
  have a1 := as_r_i
  go_enter Tryz.func140, Tryz.ntmps140
  go_wp2_with fail
  refine cl.mono ?_; rintro e w1 ⟨rfl, rfl⟩
  clear cl
  go_wp2
  go_ret2
  exact ⟨rfl, by go_grown⟩
set_option maxHeartbeats 4000000 in
set_option maxRecDepth 100000 in
theorem join_no14 {B g : Nat} {c0 c1 pv c3 : Value} {l : List UInt8} (x o : Op5) (s sv : Value) (FL : List Value) (w : World) (h : SbE w B g c0 c1 pv c3 l) (hrow : w.ownsRow B 56 1 pv (FL ++ [pieceQ x s]).length (FL ++ [pieceQ x s])) (hlen : FL.length ≤ 4194304) (hs : ∃ p n c, s = .slice p n c) (hx : x.k = 1) (ho : o.k = 4) :
    Calls Tryz.prog 140 #[.pointer (some ⟨g, 0, none⟩), pieceQ o sv] w fun e w' => e = .returned (.tuple #[.nilIface, .bool false]) ∧ Below w.heap.size w w' := by
  obtain ⟨p1, l1, q1, rfl⟩ := hs
  have cl := last_one pv FL (pieceQ x (.slice p1 l1 q1)) B w hrow hlen
  obtain ⟨p, cap, hpv⟩ := own_slice hrow
  obtain ⟨av, jv, hs0⟩ := h
  have c2 : w.cell? ⟨g, 2, none⟩ = some pv := by rw [cell_of_heap hs0.at_]; rfl
  obtain ⟨nx, hnx⟩ : ∃ z : Int, ((scs x.t.data.toList).length : Int) = z := ⟨_, rfl⟩
  obtain ⟨tx, htx⟩ : ∃ z, x.t = z := ⟨_, rfl⟩
  obtain ⟨co, hco⟩ : ∃ z, o.c = z := ⟨_, rfl⟩
  rw [pieceQ_1 hx, hnx, htx] at cl
  rw [pieceQ_4 ho, hco]
  clear hs0 hrow hx ho hpv hnx htx hco
  have a0 := as_i_i
  have a1 := as_d_i
  go_enter Tryz.func140, Tryz.ntmps140
  go_wp2_with fail
  refine cl.mono ?_; rintro e w1 ⟨rfl, rfl⟩
  clear cl
  go_wp2
  go_ret2
  exact ⟨rfl, by go_grown⟩
set_option maxHeartbeats 4000000 in
set_option maxRecDepth 100000 in
theorem join_no21 {B g : Nat} {c0 c1 pv c3 : Value} {l : List UInt8} (x o : Op5) (s sv : Value) (FL : List Value) (w : World) (h : SbE w B g c0 c1 pv c3 l) (hrow : w.ownsRow B 56 1 pv (FL ++ [pieceQ x s]).length (FL ++ [pieceQ x s])) (hlen : FL.length ≤ 4194304) (hs : ∃ p n c, s = .slice p n c) (hx : x.k = 2) (ho : o.k = 1) :
    Calls Tryz.prog 140 #[.pointer (some ⟨g, 0, none⟩), pieceQ o sv] w fun e w' => e = .returned (.tuple #[.nilIface, .bool false]) ∧ Below w.heap.size w w' := by
  obtain ⟨p1, l1, q1, rfl⟩ := hs
  have cl := last_one pv FL (pieceQ x (.slice p1 l1 q1)) B w hrow hlen
  obtain ⟨p, cap, hpv⟩ := own_slice hrow
  obtain ⟨av, jv, hs0⟩ := h
  have c2 : w.cell? ⟨g, 2, none⟩ = some pv := by rw [cell_of_heap hs0.at_]; rfl
  obtain ⟨Vx, hVx⟩ : ∃ V, valP x.v = V := ⟨_, rfl⟩
  obtain ⟨tx, htx⟩ : ∃ z, x.t = z := ⟨_, rfl⟩
  obtain ⟨no, hno⟩ : ∃ z : Int, ((scs o.t.data.toList).length : Int) = z := ⟨_, rfl⟩
  obtain ⟨tO, htO⟩ : ∃ z, o.t = z := ⟨_, rfl⟩
  rw [pieceQ_2 hx, hVx, htx] at cl
  rw [pieceQ_1 ho, hno, htO]
  clear hs0 hrow hx ho hpv hVx htx hno htO
  have a0 := as_e_i
  have a1 := as_e_r
  go_enter Tryz.func140, Tryz.ntmps140
  go_wp2_with fail
  refine cl.mono ?_; rintro e w1 ⟨rfl, rfl⟩
  clear cl
  go_wp2
  go_ret2
  exact ⟨rfl, by go_grown⟩
set_option maxHeartbeats 4000000 in
set_option maxRecDepth 100000 in
theorem join_no22 {B g : Nat} {c0 c1 pv c3 : Value} {l : List UInt8} (x o : Op5) (s sv : Value) (FL : List Value) (w : World) (h : SbE w B g c0 c1 pv c3 l) (hrow : w.ownsRow B 56 1 pv (FL ++ [pieceQ x s]).length (FL ++ [pieceQ x s])) (hlen : FL.length ≤ 4194304) (hs : ∃ p n c, s = .slice p n c) (hx : x.k = 2) (ho : o.k = 2) :
    Calls Tryz.prog 140 #[.pointer (some ⟨g, 0, none⟩), pieceQ o sv] w fun e w' => e = .returned (.tuple #[.nilIface, .bool false]) ∧ Below w.heap.size w w' := by
  obtain ⟨p1, l1, q1, rfl⟩ := hs
  have cl := last_one pv FL (pieceQ x (.slice p1 l1 q1)) B w hrow hlen
  obtain ⟨p, cap, hpv⟩ := own_slice hrow
  obtain ⟨av, jv, hs0⟩ := h
  have c2 : w.cell? ⟨g, 2, none⟩ = some pv := by rw [cell_of_heap hs0.at_]; rfl
  obtain ⟨Vx, hVx⟩ : ∃ V, valP x.v = V := ⟨_, rfl⟩
  obtain ⟨tx, htx⟩ : ∃ z, x.t = z := ⟨_, rfl⟩
  obtain ⟨Vo, hVo⟩ : ∃ V, valP o.v = V := ⟨_, rfl⟩
  obtain ⟨tO, htO⟩ : ∃ z, o.t = z := ⟨_, rfl⟩
  rw [pieceQ_2 hx, hVx, htx] at cl
  rw [pieceQ_2 ho, hVo, htO]
  clear hs0 hrow hx ho hpv hVx htx hVo htO
  have a0 := as_e_i
  have a1 := as_e_r
  go_enter Tryz.func140, Tryz.ntmps140
  go_wp2_with fail
  refine cl.mono ?_; rintro e w1 ⟨rfl, rfl⟩
  clear cl
  go_wp2
  go_ret2
  exact ⟨rfl, by go_grown⟩
set_option maxHeartbeats 4000000 in
set_option maxRecDepth 100000 in
theorem join_no23 {B g : Nat} {c0 c1 pv c3 : Value} {l : List UInt8} (x o : Op5) (s sv : Value) (FL : List Value) (w : World) (h : SbE w B g c0 c1 pv c3 l) (hrow : w.ownsRow B 56 1 pv (FL ++ [pieceQ x s]).length (FL ++ [pieceQ x s])) (hlen : FL.length ≤ 4194304) (hs : ∃ p n c, s = .slice p n c) (hx : x.k = 2) (ho : o.k = 3) :
    Calls Tryz.prog 140 #[.pointer (some ⟨g, 0, none⟩), pieceQ o sv] w fun e w' => e = .returned (.tuple #[.nilIface, .bool false]) ∧ Below w.heap.size w w' := by
  obtain ⟨p1, l1, q1, rfl⟩ := hs
  have cl := last_one pv FL (pieceQ x (.slice p1 l1 q1)) B w hrow hlen
  obtain ⟨p, cap, hpv⟩ := own_slice hrow
  obtain ⟨av, jv, hs0⟩ := h
  have c2 : w.cell? ⟨g, 2, none⟩ = some pv := by rw [cell_of_heap hs0.at_]; rfl
  obtain ⟨Vx, hVx⟩ : ∃ V, valP x.v = V := ⟨_, rfl⟩
  obtain ⟨tx, htx⟩ : ∃ z, x.t = z := ⟨_, rfl⟩
  obtain ⟨co, hco⟩ : ∃ z, o.c = z := ⟨_, rfl⟩
  rw [pieceQ_2 hx, hVx, htx] at cl
  rw [pieceQ_3 ho, hco]
  clear hs0 hrow hx ho hpv hVx htx hco
  have a0 := as_e_i
  have a1 := as_e_r
  go_enter Tryz.func140, Tryz.ntmps140
  go_wp2_with fail
  refine cl.mono ?_; rintro e w1 ⟨rfl, rfl⟩
  clear cl
  go_wp2
  go_ret2
  exact ⟨rfl, by go_grown⟩
set_option maxHeartbeats 4000000 in
set_option maxRecDepth 100000 in
theorem join_no24 {B g : Nat} {c0 c1 pv c3 : Value} {l : List UInt8} (x o : Op5) (s sv : Value) (FL : List Value) (w : World) (h : SbE w B g c0 c1 pv c3 l) (hrow : w.ownsRow B 56 1 pv (FL ++ [pieceQ x s]).length (FL ++ [pieceQ x s])) (hlen : FL.length ≤ 4194304) (hs : ∃ p n c, s = .slice p n c) (hx : x.k = 2) (ho : o.k = 4) :
    Calls Tryz.prog 140 #[.pointer (some ⟨g, 0, none⟩), pieceQ o sv] w fun e w' => e = .returned (.tuple #[.nilIface, .bool false]) ∧ Below w.heap.size w w' := by
  obtain ⟨p1, l1, q1, rfl⟩ := hs
  have cl := last_one pv FL (pieceQ x (.slice p1 l1 q1)) B w hrow hlen
  obtain ⟨p, cap, hpv⟩ := own_slice hrow
  obtain ⟨av, jv, hs0⟩ := h
  have c2 : w.cell? ⟨g, 2, none⟩ = some pv := by rw [cell_of_heap hs0.at_]; rfl
  obtain ⟨Vx, hVx⟩ : ∃ V, valP x.v = V := ⟨_, rfl⟩
  obtain ⟨tx, htx⟩ : ∃ z, x.t = z := ⟨_, rfl⟩
  obtain ⟨co, hco⟩ : ∃ z, o.c = z := ⟨_, rfl⟩
  rw [pieceQ_2 hx, hVx, htx] at cl
  rw [pieceQ_4 ho, hco]
  clear hs0 hrow hx ho hpv hVx htx hco
  have a0 := as_e_i
  have a1 := as_e_r
  go_enter Tryz.func140, Tryz.ntmps140
  go_wp2_with fail
  refine cl.mono ?_; rintro e w1 ⟨rfl, rfl⟩
  clear cl
  go_wp2
  go_ret2
  exact ⟨rfl, by go_grown⟩
set_option maxHeartbeats 4000000 in
set_option maxRecDepth 100000 in
theorem join_no31 {B g : Nat} {c0 c1 pv c3 : Value} {l : List UInt8} (x o : Op5) (s sv : Value) (FL : List Value) (w : World) (h : SbE w B g c0 c1 pv c3 l) (hrow : w.ownsRow B 56 1 pv (FL ++ [pieceQ x s]).length (FL ++ [pieceQ x s])) (hlen : FL.length ≤ 4194304) (hs : ∃ p n c, s = .slice p n c) (hx : x.k = 3) (ho : o.k = 1) :
    Calls Tryz.prog 140 #[.pointer (some ⟨g, 0, none⟩), pieceQ o sv] w fun e w' => e = .returned (.tuple #[.nilIface, .bool false]) ∧ Below w.heap.size w w' := by
  obtain ⟨p1, l1, q1, rfl⟩ := hs
  have cl := last_one pv FL (pieceQ x (.slice p1 l1 q1)) B w hrow hlen
  obtain ⟨p, cap, hpv⟩ := own_slice hrow
  obtain ⟨av, jv, hs0⟩ := h
  have c2 : w.cell? ⟨g, 2, none⟩ = some pv := by rw [cell_of_heap hs0.at_]; rfl
  obtain ⟨cx, hcx⟩ : ∃ z, x.c = z := ⟨_, rfl⟩
  obtain ⟨no, hno⟩ : ∃ z : Int, ((scs o.t.data.toList).length : Int) = z := ⟨_, rfl⟩
  obtain ⟨tO, htO⟩ : ∃ z, o.t = z := ⟨_, rfl⟩
  rw [pieceQ_3 hx, hcx] at cl
  rw [pieceQ_1 ho, hno, htO]
  clear hs0 hrow hx ho hpv hcx hno htO
  have a0 := as_r_i
  have a1 := as_r_r
  have a2 := as_i_r
  go_enter Tryz.func140, Tryz.ntmps140
  go_wp2_with fail
  refine cl.mono ?_; rintro e w1 ⟨rfl, rfl⟩
  clear cl
  go_wp2
  go_ret2
  exact ⟨rfl, by go_grown⟩
set_option maxHeartbeats 4000000 in
set_option maxRecDepth 100000 in
theorem join_no32 {B g : Nat} {c0 c1 pv c3 : Value} {l : List UInt8} (x o : Op5) (s sv : Value) (FL : List Value) (w : World) (h : SbE w B g c0 c1 pv c3 l) (hrow : w.ownsRow B 56 1 pv (FL ++ [pieceQ x s]).length (FL ++ [pieceQ x s])) (hlen : FL.length ≤ 4194304) (hs : ∃ p n c, s = .slice p n c) (hx : x.k = 3) (ho : o.k = 2) :
    Calls Tryz.prog 140 #[.pointer (some ⟨g, 0, none⟩), pieceQ o sv] w fun e w' => e = .returned (.tuple #[.nilIface, .bool false]) ∧ Below w.heap.size w w' := by
  obtain ⟨p1, l1, q1, rfl⟩ := hs
  have cl := last_one pv FL (pieceQ x (.slice p1 l1 q1)) B w hrow hlen
  obtain ⟨p, cap, hpv⟩ := own_slice hrow
  obtain ⟨av, jv, hs0⟩ := h
  have c2 : w.cell? ⟨g, 2, none⟩ = some pv := by rw [cell_of_heap hs0.at_]; rfl
  obtain ⟨cx, hcx⟩ : ∃ z, x.c = z := ⟨_, rfl⟩
  obtain ⟨Vo, hVo⟩ : ∃ V, valP o.v = V := ⟨_, rfl⟩
  obtain ⟨tO, htO⟩ : ∃ z, o.t = z := ⟨_, rfl⟩
  rw [pieceQ_3 hx, hcx] at cl
  rw [pieceQ_2 ho, hVo, htO]
  clear hs0 hrow hx ho hpv hcx hVo htO
  have a0 := as_r_i
  have a1 := as_r_r
  have a2 := as_e_r
  go_enter Tryz.func140, Tryz.ntmps140
  go_wp2_with fail
  refine cl.mono ?_; rintro e w1 ⟨rfl, rfl⟩
  clear cl
  go_wp2
  go_ret2
  exact ⟨rfl, by go_grown⟩
set_option maxHeartbeats 4000000 in
set_option maxRecDepth 100000 in
theorem join_no34 {B g : Nat} {c0 c1 pv c3 : Value} {l : List UInt8} (x o : Op5) (s sv : Value) (FL : List Value) (w : World) (h : SbE w B g c0 c1 pv c3 l) (hrow : w.ownsRow B 56 1 pv (FL ++ [pieceQ x s]).length (FL ++ [pieceQ x s])) (hlen : FL.length ≤ 4194304) (hs : ∃ p n c, s = .slice p n c) (hx : x.k = 3) (ho : o.k = 4) :
    Calls Tryz.prog 140 #[.pointer (some ⟨g, 0, none⟩), pieceQ o sv] w fun e w' => e = .returned (.tuple #[.nilIface, .bool false]) ∧ Below w.heap.size w w' := by
  obtain ⟨p1, l1, q1, rfl⟩ := hs
  have cl := last_one pv FL (pieceQ x (.slice p1 l1 q1)) B w hrow hlen
  obtain ⟨p, cap, hpv⟩ := own_slice hrow
  obtain ⟨av, jv, hs0⟩ := h
  have c2 : w.cell? ⟨g, 2, none⟩ = some pv := by rw [cell_of_heap hs0.at_]; rfl
  obtain ⟨cx, hcx⟩ : ∃ z, x.c = z := ⟨_, rfl⟩
  obtain ⟨co, hco⟩ : ∃ z, o.c = z := ⟨_, rfl⟩
  rw [pieceQ_3 hx, hcx] at cl
  rw [pieceQ_4 ho, hco]
  clear hs0 hrow hx ho hpv hcx hco
  have a0 := as_r_i
  have a1 := as_r_r
  have a2 := as_d_r
  go_enter Tryz.func140, Tryz.ntmps140
  go_wp2_with fail
  refine cl.mono ?_; rintro e w1 ⟨rfl, rfl⟩
  clear cl
  go_wp2
  go_ret2
  exact ⟨rfl, by go_grown⟩
set_option maxHeartbeats 4000000 in
set_option maxRecDepth 100000 in
theorem join_no41 {B g : Nat} {c0 c1 pv c3 : Value} {l : List UInt8} (x o : Op5) (s sv : Value) (FL : List Value) (w : World) (h : SbE w B g c0 c1 pv c3 l) (hrow : w.ownsRow B 56 1 pv (FL ++ [pieceQ x s]).length (FL ++ [pieceQ x s])) (hlen : FL.length ≤ 4194304) (hs : ∃ p n c, s = .slice p n c) (hx : x.k = 4) (ho : o.k = 1) :
    Calls Tryz.prog 140 #[.pointer (some ⟨g, 0, none⟩), pieceQ o sv] w fun e w' => e = .returned (.tuple #[.nilIface, .bool false]) ∧ Below w.heap.size w w' := by
  obtain ⟨p1, l1, q1, rfl⟩ := hs
  have cl := last_one pv FL (pieceQ x (.slice p1 l1 q1)) B w hrow hlen
  obtain ⟨p, cap, hpv⟩ := own_slice hrow
  obtain ⟨av, jv, hs0⟩ := h
  have c2 : w.cell? ⟨g, 2, none⟩ = some pv := by rw [cell_of_heap hs0.at_]; rfl
  obtain ⟨cx, hcx⟩ : ∃ z, x.c = z := ⟨_, rfl⟩
  obtain ⟨no, hno⟩ : ∃ z : Int, ((scs o.t.data.toList).length : Int) = z := ⟨_, rfl⟩
  obtain ⟨tO, htO⟩ : ∃ z, o.t = z := ⟨_, rfl⟩
  rw [pieceQ_4 hx, hcx] at cl
  rw [pieceQ_1 ho, hno, htO]
  clear hs0 hrow hx ho hpv hcx hno htO
  have a0 := as_d_i
  have a1 := as_d_r
  go_enter Tryz.func140, Tryz.ntmps140
  go_wp2_with fail
  refine cl.mono ?_; rintro e w1 ⟨rfl, rfl⟩
  clear cl
  go_wp2
  go_ret2
  exact ⟨rfl, by go_grown⟩
set_option maxHeartbeats 4000000 in
set_option maxRecDepth 100000 in
theorem join_no42 {B g : Nat} {c0 c1 pv c3 : Value} {l : List UInt8} (x o : Op5) (s sv : Value) (FL : List Value) (w : World) (h : SbE w B g c0 c1 pv c3 l) (hrow : w.ownsRow B 56 1 pv (FL ++ [pieceQ x s]).length (FL ++ [pieceQ x s])) (hlen : FL.length ≤ 4194304) (hs : ∃ p n c, s = .slice p n c) (hx : x.k = 4) (ho : o.k = 2) :
    Calls Tryz.prog 140 #[.pointer (some ⟨g, 0, none⟩), pieceQ o sv] w fun e w' => e = .returned (.tuple #[.nilIface, .bool false]) ∧ Below w.heap.size w w' := by
  obtain ⟨p1, l1, q1, rfl⟩ := hs
  have cl := last_one pv FL (pieceQ x (.slice p1 l1 q1)) B w hrow hlen
  obtain ⟨p, cap, hpv⟩ := own_slice hrow
  obtain ⟨av, jv, hs0⟩ := h
  have c2 : w.cell? ⟨g, 2, none⟩ = some pv := by rw [cell_of_heap hs0.at_]; rfl
  obtain ⟨cx, hcx⟩ : ∃ z, x.c = z := ⟨_, rfl⟩
  obtain ⟨Vo, hVo⟩ : ∃ V, valP o.v = V := ⟨_, rfl⟩
  obtain ⟨tO, htO⟩ : ∃ z, o.t = z := ⟨_, rfl⟩
  rw [pieceQ_4 hx, hcx] at cl
  rw [pieceQ_2 ho, hVo, htO]
  clear hs0 hrow hx ho hpv hcx hVo htO
  have a0 := as_d_i
  have a1 := as_d_r
  go_enter Tryz.func140, Tryz.ntmps140
  go_wp2_with fail
  refine cl.mono ?_; rintro e w1 ⟨rfl, rfl⟩
  clear cl
  go_wp2
  go_ret2
  exact ⟨rfl, by go_grown⟩
set_option maxHeartbeats 4000000 in
set_option maxRecDepth 100000 in
theorem join_no43 {B g : Nat} {c0 c1 pv c3 : Value} {l : List UInt8} (x o : Op5) (s sv : Value) (FL : List Value) (w : World) (h : SbE w B g c0 c1 pv c3 l) (hrow : w.ownsRow B 56 1 pv (FL ++ [pieceQ x s]).length (FL ++ [pieceQ x s])) (hlen : FL.length ≤ 4194304) (hs : ∃ p n c, s = .slice p n c) (hx : x.k = 4) (ho : o.k = 3) :
    Calls Tryz.prog 140 #[.pointer (some ⟨g, 0, none⟩), pieceQ o sv] w fun e w' => e = .returned (.tuple #[.nilIface, .bool false]) ∧ Below w.heap.size w w' := by
  obtain ⟨p1, l1, q1, rfl⟩ := hs
  have cl := last_one pv FL (pieceQ x (.slice p1 l1 q1)) B w hrow hlen
  obtain ⟨p, cap, hpv⟩ := own_slice hrow
  obtain ⟨av, jv, hs0⟩ := h
  have c2 : w.cell? ⟨g, 2, none⟩ = some pv := by rw [cell_of_heap hs0.at_]; rfl
  obtain ⟨cx, hcx⟩ : ∃ z, x.c = z := ⟨_, rfl⟩
  obtain ⟨co, hco⟩ : ∃ z, o.c = z := ⟨_, rfl⟩
  rw [pieceQ_4 hx, hcx] at cl
  rw [pieceQ_3 ho, hco]
  clear hs0 hrow hx ho hpv hcx hco
  have a0 := as_d_i
  have a1 := as_d_r
  go_enter Tryz.func140, Tryz.ntmps140
  go_wp2_with fail
  refine cl.mono ?_; rintro e w1 ⟨rfl, rfl⟩
  clear cl
  go_wp2
  go_ret2
  exact ⟨rfl, by go_grown⟩
set_option maxHeartbeats 4000000 in
set_option maxRecDepth 100000 in
theorem join_no44 {B g : Nat} {c0 c1 pv c3 : Value} {l : List UInt8} (x o : Op5) (s sv : Value) (FL : List Value) (w : World) (h : SbE w B g c0 c1 pv c3 l) (hrow : w.ownsRow B 56 1 pv (FL ++ [pieceQ x s]).length (FL ++ [pieceQ x s])) (hlen : FL.length ≤ 4194304) (hs : ∃ p n c, s = .slice p n c) (hx : x.k = 4) (ho : o.k = 4) :
    Calls Tryz.prog 140 #[.pointer (some ⟨g, 0, none⟩), pieceQ o sv] w fun e w' => e = .returned (.tuple #[.nilIface, .bool false]) ∧ Below w.heap.size w w' := by
  obtain ⟨p1, l1, q1, rfl⟩ := hs
  have cl := last_one pv FL (pieceQ x (.slice p1 l1 q1)) B w hrow hlen
  obtain ⟨p, cap, hpv⟩ := own_slice hrow
  obtain ⟨av, jv, hs0⟩ := h
  have c2 : w.cell? ⟨g, 2, none⟩ = some pv := by rw [cell_of_heap hs0.at_]; rfl
  obtain ⟨cx, hcx⟩ : ∃ z, x.c = z := ⟨_, rfl⟩
  obtain ⟨co, hco⟩ : ∃ z, o.c = z := ⟨_, rfl⟩
  rw [pieceQ_4 hx, hcx] at cl
  rw [pieceQ_4 ho, hco]
  clear hs0 hrow hx ho hpv hcx hco
  have a0 := as_d_i
  have a1 := as_d_r
  go_enter Tryz.func140, Tryz.ntmps140
  go_wp2_with fail
  refine cl.mono ?_; rintro e w1 ⟨rfl, rfl⟩
  clear cl
  go_wp2
  go_ret2
  exact ⟨rfl, by go_grown⟩
end Go.Proofs.YtalfdjglbbmjcaaGreatDoor

/- build: join, where both are texts or both are retains. -/
namespace Go.Proofs.YtalfdjglbbmjcaaGreatDoor
open Go Go.RowKit Go.Lib
set_option linter.unusedVariables false

theorem jnO_len {x o : Op5} (hx : brk x.t.data.toList = x.t.size) (ho : brk o.t.data.toList = o.t.size) : ((scs (x.t ++ o.t).data.toList).length : Int) = (scs x.t.data.toList).length + (scs o.t.data.toList).length := by
  have hc := scs_cat (a := x.t.data.toList) (b := o.t.data.toList) (by rw [hx, size_toList]) (by rw [ho, size_toList])
  rw [cat_list, hc.1, List.length_append]
  omega
/-- Two lists the same or not. -/
abbrev SameC (x o : Op5) : Prop := ∀ W v v', RowA W v x.A → RowA W v' o.A → Calls Tryz.prog 154 #[v, v'] W fun r w' => r = .returned (.bool (decide (x.A = o.A))) ∧ Below W.heap.size W w'

set_option maxHeartbeats 4000000 in
set_option maxRecDepth 100000 in
theorem join_no11 {B g : Nat} {c0 c1 pv c3 : Value} {l : List UInt8} (x o : Op5) (s sv : Value) (FL : List Value) (w : World) (h : SbE w B g c0 c1 pv c3 l) (hrow : w.ownsRow B 56 1 pv (FL ++ [pieceQ x s]).length (FL ++ [pieceQ x s])) (hlen : FL.length ≤ 4194304) (hx : x.k = 1) (ho : o.k = 1) (hA : x.A ≠ o.A) (hs : RowA w s x.A) (hsv : RowA w sv o.A) (hl1 : x.A.length ≤ 2097152) (hl2 : o.A.length ≤ 2097152) :
    Calls Tryz.prog 140 #[.pointer (some ⟨g, 0, none⟩), pieceQ o sv] w fun e w' => e = .returned (.tuple #[.nilIface, .bool false]) ∧ Below w.heap.size w w' := by
  have cl := last_one pv FL (pieceQ x s) B w hrow hlen
  have HS : Hid (SameC x o) := fun W v v' h1 h2 => same_any' v v' x.A o.A W h1 h2 (by omega) (by omega)
  obtain ⟨p, cap, hpv⟩ := own_slice hrow
  obtain ⟨av, jv, hs0⟩ := h
  have c2 : w.cell? ⟨g, 2, none⟩ = some pv := by rw [cell_of_heap hs0.at_]; rfl
  have hd : decide (x.A = o.A) = false := decide_eq_false hA
  obtain ⟨nx, hnx⟩ : ∃ z : Int, ((scs x.t.data.toList).length : Int) = z := ⟨_, rfl⟩
  obtain ⟨tx, htx⟩ : ∃ z, x.t = z := ⟨_, rfl⟩
  obtain ⟨no, hno⟩ : ∃ z : Int, ((scs o.t.data.toList).length : Int) = z := ⟨_, rfl⟩
  obtain ⟨tO, htO⟩ : ∃ z, o.t = z := ⟨_, rfl⟩
  obtain ⟨p1, q1, e1, _⟩ := hs.val
  obtain ⟨p2, q2, e2, _⟩ := hsv.val
  rw [e1] at hs
  rw [e2] at hsv
  obtain ⟨l1, hl1'⟩ : ∃ z, x.A.length = z := ⟨_, rfl⟩
  obtain ⟨l2, hl2'⟩ : ∃ z, o.A.length = z := ⟨_, rfl⟩
  rw [pieceQ_1 hx, hnx, htx, e1] at cl
  rw [pieceQ_1 ho, hno, htO, e2]
  rw [hl1'] at cl hs
  rw [hl2'] at hsv ⊢
  have b0 : Below w.heap.size w ((w.alloc (.cells #[.slice p1 l1 q1, .string tx, .int .i64 nx] 180)).alloc (.cells #[.slice p2 l2 q2, .string tO, .int .i64 no] 180)) := ((Below.refl _ _).alloc (Nat.le_refl _) _).alloc (by simp) _
  have cs := HS.out _ _ _ (hs.below b0) (hsv.below b0)
  rw [hd] at cs
  clear hs0 hrow hx ho hpv hnx htx hno htO e1 e2 hs hsv hl1 hl2 hl1' hl2' HS hd hA
  have a0 := as_i_i
  go_enter Tryz.func140, Tryz.ntmps140
  go_wp2_with fail
  refine cl.mono ?_; rintro e w1 ⟨rfl, rfl⟩
  clear cl
  go_wp2_with (go_at_call 154; refine cs.mono ?_; rintro r w2 ⟨rfl, hb2⟩; have b2 := b0.trans (hb2.mono b0.size); clear cs b0 hb2)
  go_ret2
  exact ⟨rfl, b2⟩
set_option maxHeartbeats 4000000 in
set_option maxRecDepth 100000 in
theorem join_no33 {B g : Nat} {c0 c1 pv c3 : Value} {l : List UInt8} (x o : Op5) (s sv : Value) (FL : List Value) (w : World) (h : SbE w B g c0 c1 pv c3 l) (hrow : w.ownsRow B 56 1 pv (FL ++ [pieceQ x s]).length (FL ++ [pieceQ x s])) (hlen : FL.length ≤ 4194304) (hx : x.k = 3) (ho : o.k = 3) (hA : x.A ≠ o.A) (hs : RowA w s x.A) (hsv : RowA w sv o.A) (hl1 : x.A.length ≤ 2097152) (hl2 : o.A.length ≤ 2097152) :
    Calls Tryz.prog 140 #[.pointer (some ⟨g, 0, none⟩), pieceQ o sv] w fun e w' => e = .returned (.tuple #[.nilIface, .bool false]) ∧ Below w.heap.size w w' := by
  have cl := last_one pv FL (pieceQ x s) B w hrow hlen
  have HS : Hid (SameC x o) := fun W v v' h1 h2 => same_any' v v' x.A o.A W h1 h2 (by omega) (by omega)
  obtain ⟨p, cap, hpv⟩ := own_slice hrow
  obtain ⟨av, jv, hs0⟩ := h
  have c2 : w.cell? ⟨g, 2, none⟩ = some pv := by rw [cell_of_heap hs0.at_]; rfl
  have hd : decide (x.A = o.A) = false := decide_eq_false hA
  obtain ⟨cx, hcx⟩ : ∃ z, x.c = z := ⟨_, rfl⟩
  obtain ⟨co, hco⟩ : ∃ z, o.c = z := ⟨_, rfl⟩
  obtain ⟨p1, q1, e1, _⟩ := hs.val
  obtain ⟨p2, q2, e2, _⟩ := hsv.val
  rw [e1] at hs
  rw [e2] at hsv
  obtain ⟨l1, hl1'⟩ : ∃ z, x.A.length = z := ⟨_, rfl⟩
  obtain ⟨l2, hl2'⟩ : ∃ z, o.A.length = z := ⟨_, rfl⟩
  rw [pieceQ_3 hx, hcx, e1] at cl
  rw [pieceQ_3 ho, hco, e2]
  rw [hl1'] at cl hs
  rw [hl2'] at hsv ⊢
  have b0 : Below w.heap.size w ((w.alloc (.cells #[.slice p1 l1 q1, .int .i64 cx] 157)).alloc (.cells #[.slice p2 l2 q2, .int .i64 co] 157)) := ((Below.refl _ _).alloc (Nat.le_refl _) _).alloc (by simp) _
  have cs := HS.out _ _ _ (hs.below b0) (hsv.below b0)
  rw [hd] at cs
  clear hs0 hrow hx ho hpv hcx hco e1 e2 hs hsv hl1 hl2 hl1' hl2' HS hd hA
  have a0 := as_r_r
  have a1 := as_r_i
  go_enter Tryz.func140, Tryz.ntmps140
  go_wp2_with fail
  refine cl.mono ?_; rintro e w1 ⟨rfl, rfl⟩
  clear cl
  go_wp2_with (go_at_call 154; refine cs.mono ?_; rintro r w2 ⟨rfl, hb2⟩; have b2 := b0.trans (hb2.mono b0.size); clear cs b0 hb2)
  go_ret2
  exact ⟨rfl, b2⟩
set_option maxHeartbeats 4000000 in
set_option maxRecDepth 100000 in
theorem join_yes33 {B g : Nat} {c0 c1 pv c3 : Value} {l : List UInt8} (x o : Op5) (s sv : Value) (FL : List Value) (w : World) (h : SbE w B g c0 c1 pv c3 l) (hrow : w.ownsRow B 56 1 pv (FL ++ [pieceQ x s]).length (FL ++ [pieceQ x s])) (hlen : FL.length ≤ 4194304) (hx : x.k = 3) (ho : o.k = 3) (hA : x.A = o.A) (hs : RowA w s x.A) (hsv : RowA w sv o.A) (hl1 : x.A.length ≤ 2097152) (hl2 : o.A.length ≤ 2097152) (hc1 : 0 ≤ x.c ∧ 0 ≤ o.c ∧ x.c + o.c ≤ 4398046511104) :
    Calls Tryz.prog 140 #[.pointer (some ⟨g, 0, none⟩), pieceQ o sv] w fun e w' => e = .returned (.tuple #[pieceQ (jnO x o) s, .bool true]) ∧ Below w.heap.size w w' := by
  have cl := last_one pv FL (pieceQ x s) B w hrow hlen
  have HS : Hid (SameC x o) := fun W v v' h1 h2 => same_any' v v' x.A o.A W h1 h2 (by omega) (by omega)
  obtain ⟨p, cap, hpv⟩ := own_slice hrow
  obtain ⟨av, jv, hs0⟩ := h
  have c2 : w.cell? ⟨g, 2, none⟩ = some pv := by rw [cell_of_heap hs0.at_]; rfl
  have hd : decide (x.A = o.A) = true := decide_eq_true hA
  have hj : (jnO x o).c = x.c + o.c := rfl
  rw [pieceQ_3 (show (jnO x o).k = 3 from hx), hj]
  obtain ⟨cx, hcx⟩ : ∃ z, x.c = z := ⟨_, rfl⟩
  obtain ⟨co, hco⟩ : ∃ z, o.c = z := ⟨_, rfl⟩
  rw [hcx, hco] at hc1
  obtain ⟨hc1, hc2, hc3⟩ := hc1
  obtain ⟨p1, q1, e1, _⟩ := hs.val
  obtain ⟨p2, q2, e2, _⟩ := hsv.val
  rw [e1] at hs
  rw [e2] at hsv
  obtain ⟨l1, hl1'⟩ : ∃ z, x.A.length = z := ⟨_, rfl⟩
  obtain ⟨l2, hl2'⟩ : ∃ z, o.A.length = z := ⟨_, rfl⟩
  rw [pieceQ_3 hx, hcx, e1] at cl
  rw [pieceQ_3 ho, hcx, hco, e1, e2]
  rw [hl1'] at cl hs ⊢
  rw [hl2'] at hsv ⊢
  have b0 : Below w.heap.size w ((w.alloc (.cells #[.slice p1 l1 q1, .int .i64 cx] 157)).alloc (.cells #[.slice p2 l2 q2, .int .i64 co] 157)) := ((Below.refl _ _).alloc (Nat.le_refl _) _).alloc (by simp) _
  have k0 : ((w.alloc (.cells #[.slice p1 l1 q1, .int .i64 cx] 157)).alloc (.cells #[.slice p2 l2 q2, .int .i64 co] 157)).heap[w.heap.size]? = some (.cells #[.slice p1 l1 q1, .int .i64 cx] 157 (0, 0)) := by
    rw [Lib.alloc_old _ _ _ (by simp)]; exact heap_alloc_new w _
  have k1 : ((w.alloc (.cells #[.slice p1 l1 q1, .int .i64 cx] 157)).alloc (.cells #[.slice p2 l2 q2, .int .i64 co] 157)).heap[w.heap.size + 1]? = some (.cells #[.slice p2 l2 q2, .int .i64 co] 157 (0, 0)) := by
    have := heap_alloc_new (w.alloc (.cells #[.slice p1 l1 q1, .int .i64 cx] 157)) (.cells #[.slice p2 l2 q2, .int .i64 co] 157)
    rw [World.size_alloc] at this
    exact this
  have cs := HS.out _ _ _ (hs.below b0) (hsv.below b0)
  rw [hd] at cs
  clear hs0 hrow hx ho hpv hcx hco e1 e2 hs hsv hl1 hl2 hl1' hl2' HS hd hA hj
  have a0 := as_r_r
  have a1 := as_r_i
  go_enter Tryz.func140, Tryz.ntmps140
  go_wp2_with fail
  refine cl.mono ?_; rintro e w1 ⟨rfl, rfl⟩
  clear cl
  go_wp2_with fail
  refine cs.mono ?_; rintro r w2 ⟨rfl, hb2⟩
  have b2 := b0.trans (hb2.mono b0.size)
  have m0 := (hb2.block _ (by simp only [World.size_alloc]; omega)).trans k0
  have m1 := (hb2.block _ (by simp only [World.size_alloc]; omega)).trans k1
  have d0 : w2.cell? ⟨w1.heap.size, 0, none⟩ = some (.slice p1 l1 q1) := by rw [cell_of_heap m0]; rfl
  have d1 : w2.cell? ⟨w1.heap.size, 1, none⟩ = some (.int .i64 cx) := by rw [cell_of_heap m0]; rfl
  have d2 : w2.cell? ⟨w1.heap.size + 1, 1, none⟩ = some (.int .i64 co) := by rw [cell_of_heap m1]; rfl
  have f1 : w2.frozen? ⟨w1.heap.size, 1, none⟩ = false := frozen_of_heap m0 1
  clear cs b0 hb2 k0 k1 m0 m1
  go_wp2
  go_ret2
  exact ⟨rfl, b2.setCell (Nat.le_refl _) _⟩
set_option maxHeartbeats 4000000 in
set_option maxRecDepth 100000 in
theorem join_yes11 {B g : Nat} {c0 c1 pv c3 : Value} {l : List UInt8} (x o : Op5) (s sv : Value) (FL : List Value) (w : World) (h : SbE w B g c0 c1 pv c3 l) (hrow : w.ownsRow B 56 1 pv (FL ++ [pieceQ x s]).length (FL ++ [pieceQ x s])) (hlen : FL.length ≤ 4194304) (hx : x.k = 1) (ho : o.k = 1) (hA : x.A = o.A) (hs : RowA w s x.A) (hsv : RowA w sv o.A) (hl1 : x.A.length ≤ 2097152) (hl2 : o.A.length ≤ 2097152) (hl : l = [] ∨ l = x.t.data.toList) (ix : Ins x) (io : Ins o) (hsz : x.t.size + o.t.size ≤ 16777216) (hB : B ≤ w.heap.size) :
    Calls Tryz.prog 140 #[.pointer (some ⟨g, 0, none⟩), pieceQ o sv] w fun e w' => e = .returned (.tuple #[pieceQ (jnO x o) s, .bool true]) ∧ SbE w' B g c0 c1 pv c3 (x.t ++ o.t).data.toList ∧ FrB B (fun k => k ≠ g) w w' := by
  have cl := last_one pv FL (pieceQ x s) B w hrow hlen
  have HS : Hid (SameC x o) := fun W v v' h1 h2 => same_any' v v' x.A o.A W h1 h2 (by omega) (by omega)
  have HJ : Hid (∀ W, Below w.heap.size w W → Calls Tryz.prog 155 #[.pointer (some ⟨g, 0, none⟩), .string x.t, .string o.t] W fun e w' => e = .returned (.string (x.t ++ o.t)) ∧ SbE w' B g c0 c1 pv c3 (x.t ++ o.t).data.toList ∧ FrB B (fun k => k ≠ g) W w') := fun W hW =>
    joinText_any B g c0 c1 pv c3 l x.t o.t W (h.below hW) hl (isEmp_size ix.full) hsz (Nat.le_trans hB hW.size)
  have hgw : g < w.heap.size := by obtain ⟨_, _, h⟩ := h; exact h.lt
  obtain ⟨p, cap, hpv⟩ := own_slice hrow
  obtain ⟨av, jv, hs0⟩ := h
  have c2 : w.cell? ⟨g, 2, none⟩ = some pv := by rw [cell_of_heap hs0.at_]; rfl
  have hd : decide (x.A = o.A) = true := decide_eq_true hA
  have hj : (jnO x o).t = x.t ++ o.t := rfl
  have hn := jnO_len ix.utf io.utf
  have hvx := (valid_text x.t ix.utf).2.2
  have hvo := (valid_text o.t io.utf).2.2
  rw [pieceQ_1 (show (jnO x o).k = 1 from hx), hj, hn]
  obtain ⟨nx, hnx⟩ : ∃ z : Int, ((scs x.t.data.toList).length : Int) = z := ⟨_, rfl⟩
  obtain ⟨no, hno⟩ : ∃ z : Int, ((scs o.t.data.toList).length : Int) = z := ⟨_, rfl⟩
  have hn1 : 0 ≤ nx ∧ nx ≤ 16777216 := by omega
  have hn2 : 0 ≤ no ∧ no ≤ 16777216 := by omega
  obtain ⟨hn1, hn3⟩ := hn1
  obtain ⟨hn2, hn4⟩ := hn2
  rw [hnx, hno]
  obtain ⟨tj, htj⟩ : ∃ z, x.t ++ o.t = z := ⟨_, rfl⟩
  rw [htj] at HJ ⊢
  obtain ⟨tx, htx⟩ : ∃ z, x.t = z := ⟨_, rfl⟩
  obtain ⟨tO, htO⟩ : ∃ z, o.t = z := ⟨_, rfl⟩
  rw [htx, htO] at HJ
  obtain ⟨p1, q1, e1, _⟩ := hs.val
  obtain ⟨p2, q2, e2, _⟩ := hsv.val
  rw [e1] at hs
  rw [e2] at hsv
  obtain ⟨l1, hl1'⟩ : ∃ z, x.A.length = z := ⟨_, rfl⟩
  obtain ⟨l2, hl2'⟩ : ∃ z, o.A.length = z := ⟨_, rfl⟩
  rw [pieceQ_1 hx, hnx, htx, e1] at cl
  rw [pieceQ_1 ho, hno, htO, e1, e2]
  rw [hl1'] at cl hs ⊢
  rw [hl2'] at hsv ⊢
  have b0 : Below w.heap.size w ((w.alloc (.cells #[.slice p1 l1 q1, .string tx, .int .i64 nx] 180)).alloc (.cells #[.slice p2 l2 q2, .string tO, .int .i64 no] 180)) := ((Below.refl _ _).alloc (Nat.le_refl _) _).alloc (by simp) _
  have k0 : ((w.alloc (.cells #[.slice p1 l1 q1, .string tx, .int .i64 nx] 180)).alloc (.cells #[.slice p2 l2 q2, .string tO, .int .i64 no] 180)).heap[w.heap.size]? = some (.cells #[.slice p1 l1 q1, .string tx, .int .i64 nx] 180 (0, 0)) := by
    rw [Lib.alloc_old _ _ _ (by simp)]; exact heap_alloc_new w _
  have k1 : ((w.alloc (.cells #[.slice p1 l1 q1, .string tx, .int .i64 nx] 180)).alloc (.cells #[.slice p2 l2 q2, .string tO, .int .i64 no] 180)).heap[w.heap.size + 1]? = some (.cells #[.slice p2 l2 q2, .string tO, .int .i64 no] 180 (0, 0)) := by
    have := heap_alloc_new (w.alloc (.cells #[.slice p1 l1 q1, .string tx, .int .i64 nx] 180)) (.cells #[.slice p2 l2 q2, .string tO, .int .i64 no] 180)
    rw [World.size_alloc] at this
    exact this
  have cs := HS.out _ _ _ (hs.below b0) (hsv.below b0)
  rw [hd] at cs
  have HB : Hid (B ≤ w.heap.size ∧ g < w.heap.size) := ⟨hB, hgw⟩
  clear hs0 hrow hx ho hpv e1 e2 hs hsv hl1 hl2 hl1' hl2' HS hd hA hj hn hvx hvo hnx hno htj htx htO ix io hsz hl hB hgw
  have a0 := as_i_i
  go_enter Tryz.func140, Tryz.ntmps140
  go_wp2_with fail
  refine cl.mono ?_; rintro e w1 ⟨rfl, rfl⟩
  clear cl
  go_wp2_with fail
  refine cs.mono ?_; rintro r w2 ⟨rfl, hb2⟩
  have b2 := b0.trans (hb2.mono b0.size)
  have m0 := (hb2.block _ (by simp only [World.size_alloc]; omega)).trans k0
  have m1 := (hb2.block _ (by simp only [World.size_alloc]; omega)).trans k1
  have d1 : w2.cell? ⟨w1.heap.size, 1, none⟩ = some (.string tx) := by rw [cell_of_heap m0]; rfl
  have d2 : w2.cell? ⟨w1.heap.size + 1, 1, none⟩ = some (.string tO) := by rw [cell_of_heap m1]; rfl
  have cj := HJ.out _ b2
  have HM : Hid (w2.heap[w1.heap.size]? = _ ∧ w2.heap[w1.heap.size + 1]? = _ ∧ Below w1.heap.size w1 w2) := ⟨m0, m1, b2⟩
  clear cs b0 hb2 k0 k1 HJ m0 m1 b2
  go_wp2_with fail
  refine cj.mono ?_; rintro r w3 ⟨rfl, h3, f3⟩
  have m0 := f3.kept _ _ HM.out.1 (by have := HB.out.2; omega) (fun c fz e => by simp only [Obj.cells.injEq] at e; exact absurd e.2.1 (by decide))
  have m1 := f3.kept _ _ HM.out.2.1 (by have := HB.out.2; omega) (fun c fz e => by simp only [Obj.cells.injEq] at e; exact absurd e.2.1 (by decide))
  have e0 : w3.cell? ⟨w1.heap.size, 0, none⟩ = some (.slice p1 l1 q1) := by rw [cell_of_heap m0]; rfl
  have e1 : w3.cell? ⟨w1.heap.size, 1, none⟩ = some (.string tx) := by rw [cell_of_heap m0]; rfl
  have e2 : w3.cell? ⟨w1.heap.size, 2, none⟩ = some (.int .i64 nx) := by rw [cell_of_heap m0]; rfl
  have e3 : w3.cell? ⟨w1.heap.size + 1, 2, none⟩ = some (.int .i64 no) := by rw [cell_of_heap m1]; rfl
  have g1 : w3.frozen? ⟨w1.heap.size, 1, none⟩ = false := frozen_of_heap m0 1
  have g2 : w3.frozen? ⟨w1.heap.size, 2, none⟩ = false := frozen_of_heap m0 2
  have m0' : (w3.setCell ⟨w1.heap.size, 1, none⟩ (.string tj)).heap[w1.heap.size]? = some (.cells #[.slice p1 l1 q1, .string tj, .int .i64 nx] 180 (0, 0)) := by rw [heap_set_at _ _ _ _ _ _ _ m0]; rfl
  have HS3 : Hid (SbE ((w3.setCell ⟨w1.heap.size, 1, none⟩ (.string tj)).setCell ⟨w1.heap.size, 2, none⟩ (.int .i64 (nx + no))) B g c0 c1 pv c3 tj.data.toList) := (h3.set_other m0 (by decide) (by decide) _).set_other m0' (by decide) (by decide) _
  have HF3 : Hid (FrB B (fun k => k ≠ g) w1 ((w3.setCell ⟨w1.heap.size, 1, none⟩ (.string tj)).setCell ⟨w1.heap.size, 2, none⟩ (.int .i64 (nx + no)))) := by
    have h0 : FrB B (fun k => k ≠ g ∧ k < w1.heap.size) w1 w3 := (FrB.of_below HM.out.2.2 HB.out.1).trans (f3.mono fun k hk => hk.1)
    have h1 := (h0.setCell m0 (by decide) HB.out.1 (by omega) (j := 1) (.string tj)).setCell m0' (by decide) HB.out.1 (by omega) (j := 2) (.int .i64 (nx + no))
    exact ⟨h1.below, fun k o ho hk hn => h1.kept k o ho ⟨hk, (Array.getElem?_eq_some_iff.1 ho).1⟩ hn, h1.keepA⟩
  clear cj h3 f3 m0 m1 m0' d1 d2 HM HB
  go_wp2
  go_ret2
  exact ⟨rfl, HS3.out, HF3.out⟩
end Go.Proofs.YtalfdjglbbmjcaaGreatDoor

/- build: add and settle: a piece put behind the others. -/
namespace Go.Proofs.YtalfdjglbbmjcaaGreatDoor
open Go Go.RowKit Go.Lib
set_option linter.unusedVariables false

/-- append(own, one piece), with where the new slice lies. -/
theorem wpList_append_piAt {w : World} {ops : Array Oper} {rest : List Oper} {o : Oper} {a : Act} {Q : Exit → Act → World → Prop} (hgd : o.guard = none) (s x : Operand)
    (ho : o.op = .call { callee := .builtin .append, args := #[s, x], argTypes := #[93, 93] })
    (base : Nat) (v : Value) (P : List Value) (hs : a.eval s = v) (hown : OwnI w base v P)
    (b c : Nat) (u : Value) (hx : a.eval x = .slice (some ⟨b, 0, none⟩) 1 c) (hu : w.cell? ⟨b, 0, none⟩ = some u) (h1 : u.oneCell' = true)
    (h63 : P.length ≤ 8388608) (hbase : base ≤ w.heap.size)
    (h : ∀ v' w', OwnI w' base v' (P ++ [u]) → w.grownBy w' v.ownBlock → (v'.ownBlock = v.ownBlock ∨ v'.ownBlock = some w.heap.size) → wpList Tryz.prog ops Q rest (a.put o.dst v') w') : wpList Tryz.prog ops Q (o :: rest) a w := by
  obtain ⟨i, z, hi, hz, hz1, hz2, hz3⟩ := infoPi
  exact wpList_append_own_at _ hgd s x _ ho base 56 i z 1 16 Tryz.underlying93 hi hz hz1 hz2 hz3 (by decide) v P.length P hs hown ⟨b, 0, none⟩ 1 c [u] hx rfl (by intro j y hj; cases j with | zero => (simp at hj; subst hj; exact hu) | succ j => simp at hj) (fun y hy => by rw [List.mem_singleton.1 hy]; exact h1) (by unfold maxLen; omega) (by omega) hbase (fun v' w' h1 h2 _ h3 => h v' w' (by show w'.ownsRow _ _ _ _ _ _; rw [List.length_append]; exact h1) h2 h3)

/-- A builder in memory: what it has gathered. -/
structure Bld (w : World) (B : Nat) (D : Nat → Prop) (g : Nat) (b r : Int) (P : List Op5) (d : Int) (pv : Value) (PL : List Value) (l : List UInt8) : Prop where
  sb : SbE w B g (.int .i64 b) (.int .i64 r) pv (.int .i64 d) l
  nd : ¬ D g
  row : OwnI w B pv PL
  rnd : ∀ k, pv.ownBlock = some k → ¬ D k
  pie : PieD w B PL P
  txt : l = [] ∨ ∃ F x, P = F ++ [x] ∧ x.k = 1 ∧ l = x.t.data.toList
def BldE (w : World) (B : Nat) (D : Nat → Prop) (g : Nat) (b r : Int) (P : List Op5) (d : Int) : Prop := ∃ pv PL l, Bld w B D g b r P d pv PL l

theorem SbE.cells {w : World} {B g : Nat} {c0 c1 c2 c3 : Value} {l : List UInt8} (h : SbE w B g c0 c1 c2 c3 l) : w.cell? ⟨g, 0, none⟩ = some c0 ∧ w.cell? ⟨g, 1, none⟩ = some c1 ∧ w.cell? ⟨g, 2, none⟩ = some c2 ∧ w.cell? ⟨g, 3, none⟩ = some c3 ∧ (∀ j, w.frozen? ⟨g, j, none⟩ = false) ∧ B ≤ g ∧ ∃ cs, w.heap[g]? = some (.cells cs 99 (0, 0)) := by
  obtain ⟨av, jv, h⟩ := h
  refine ⟨?_, ?_, ?_, ?_, fun j => frozen_of_heap h.at_ j, h.lo, _, h.at_⟩ <;> (rw [cell_of_heap h.at_]; rfl)
theorem SbE.lt {w : World} {B g : Nat} {c0 c1 c2 c3 : Value} {l : List UInt8} (h : SbE w B g c0 c1 c2 c3 l) : g < w.heap.size := by obtain ⟨av, jv, h⟩ := h; exact h.lt
theorem SbE.set0 {w : World} {B g : Nat} {c0 c1 c2 c3 : Value} {l : List UInt8} (h : SbE w B g c0 c1 c2 c3 l) (u : Value) : SbE (w.setCell ⟨g, 0, none⟩ u) B g u c1 c2 c3 l := by
  obtain ⟨av, jv, h⟩ := h
  exact ⟨av, jv, h.lo, by rw [heap_set_at _ _ _ _ _ _ _ h.at_]; rfl, rowF_same h.buf fun k hk => Below.heap_setCell _ _ _ _ (fun e => h.ne (by rw [hk, e])), h.adr⟩
theorem SbE.set1 {w : World} {B g : Nat} {c0 c1 c2 c3 : Value} {l : List UInt8} (h : SbE w B g c0 c1 c2 c3 l) (u : Value) : SbE (w.setCell ⟨g, 1, none⟩ u) B g c0 u c2 c3 l := by
  obtain ⟨av, jv, h⟩ := h
  exact ⟨av, jv, h.lo, by rw [heap_set_at _ _ _ _ _ _ _ h.at_]; rfl, rowF_same h.buf fun k hk => Below.heap_setCell _ _ _ _ (fun e => h.ne (by rw [hk, e])), h.adr⟩
theorem SbE.set2 {w : World} {B g : Nat} {c0 c1 c2 c3 : Value} {l : List UInt8} (h : SbE w B g c0 c1 c2 c3 l) (u : Value) : SbE (w.setCell ⟨g, 2, none⟩ u) B g c0 c1 u c3 l := by
  obtain ⟨av, jv, h⟩ := h
  exact ⟨av, jv, h.lo, by rw [heap_set_at _ _ _ _ _ _ _ h.at_]; rfl, rowF_same h.buf fun k hk => Below.heap_setCell _ _ _ _ (fun e => h.ne (by rw [hk, e])), h.adr⟩
theorem SbE.set3 {w : World} {B g : Nat} {c0 c1 c2 c3 : Value} {l : List UInt8} (h : SbE w B g c0 c1 c2 c3 l) (u : Value) : SbE (w.setCell ⟨g, 3, none⟩ u) B g c0 c1 c2 u l := by
  obtain ⟨av, jv, h⟩ := h
  exact ⟨av, jv, h.lo, by rw [heap_set_at _ _ _ _ _ _ _ h.at_]; rfl, rowF_same h.buf fun k hk => Below.heap_setCell _ _ _ _ (fun e => h.ne (by rw [hk, e])), h.adr⟩
theorem SbE.grown {w w' : World} {B g : Nat} {c0 c1 c2 c3 : Value} {l : List UInt8} {row : Option Nat} (h : SbE w B g c0 c1 c2 c3 l) (hg : w.grownBy w' row) (hr : ∀ k, row = some k → ∃ cs T fz, w.heap[k]? = some (.cells cs T fz) ∧ T ≠ 99 ∧ T ≠ 5) : SbE w' B g c0 c1 c2 c3 l := by
  obtain ⟨av, jv, h⟩ := h
  have key : ∀ (k : Nat) (cs : Array Value) (T : TypeId) (fz : Nat × Nat), w.heap[k]? = some (Obj.cells cs T fz) → T = 99 ∨ T = 5 → w'.heap[k]? = w.heap[k]? := fun k cs T fz hk hT => by
    refine hg.block k (Array.getElem?_eq_some_iff.1 hk).1 fun e => ?_
    obtain ⟨cs', T', fz', h1, h2, h3⟩ := hr k e.symm
    rw [hk] at h1
    simp only [Option.some.injEq, Obj.cells.injEq] at h1
    rcases hT with hT | hT
    · exact h2 (h1.2.1 ▸ hT)
    · exact h3 (h1.2.1 ▸ hT)
  refine ⟨av, jv, h.lo, (key _ _ _ _ h.at_ (Or.inl rfl)).trans h.at_, rowF_same h.buf fun k hk => ?_, h.adr⟩
  rcases h.buf.2 with ⟨rfl, _⟩ | ⟨g', cap, cur, fz, rfl, _, hgg, _⟩
  · cases hk
  · simp only [Value.ownBlock, Option.some.injEq] at hk
    obtain rfl := hk
    exact key _ _ _ _ hgg (Or.inr rfl)
theorem own_ne {w : World} {B g : Nat} {v : Value} {n : Nat} {PL : List Value} {cs : Array Value} {fz : Nat × Nat} (h : w.ownsRow B 56 1 v n PL) (hg : w.heap[g]? = some (.cells cs 99 fz)) : v.ownBlock ≠ some g := fun e => by
  obtain ⟨_, cur, h2⟩ := owns_block h g e
  rw [h2] at hg
  simp only [Option.some.injEq, Obj.cells.injEq] at hg
  exact absurd hg.2.1 (by decide)
theorem Bld.below {w w' : World} {B : Nat} {D : Nat → Prop} {g : Nat} {b r : Int} {P : List Op5} {d : Int} {pv : Value} {PL : List Value} {l : List UInt8} (h : Bld w B D g b r P d pv PL l) (hb : Below w.heap.size w w') : Bld w' B D g b r P d pv PL l :=
  ⟨h.sb.below hb, h.nd, owns_below h.row hb, h.rnd, h.pie.below hb, h.txt⟩
/-- Rows of pieces stand while the builder's own block is written. -/
theorem FrB.rowI {w w' : World} {B g : Nat} {v : Value} {n : Nat} {PL : List Value} {cs : Array Value} {fz : Nat × Nat} (f : FrB B (fun k => k ≠ g) w w') (h : w.ownsRow B 56 1 v n PL) (hg : w.heap[g]? = some (.cells cs 99 fz)) : w'.ownsRow B 56 1 v n PL :=
  owns_same h fun k hk => by
    obtain ⟨_, cur, h2⟩ := owns_block h k hk
    rw [h2]
    exact f.kept k _ h2 (fun e => own_ne h hg (by rw [hk, e])) (fun c fz e => by simp only [Obj.cells.injEq] at e; exact absurd e.2.1 (by decide))

set_option maxHeartbeats 4000000 in
set_option maxRecDepth 100000 in
theorem add_app {B g : Nat} {D : Nat → Prop} {b r : Int} {P : List Op5} {d : Int} {pv : Value} {PL : List Value} {l : List UInt8} (o : Op5) (sv : Value) (w : World) (h : Bld w B D g b r P d pv PL l) (hsv : OwnA w B sv o.A) (hD : ∀ k, D k → k < w.heap.size) (hl : P.length ≤ 4194304)
    (cj : Calls Tryz.prog 140 #[.pointer (some ⟨g, 0, none⟩), pieceQ o sv] w fun e w' => e = .returned (.tuple #[.nilIface, .bool false]) ∧ Below w.heap.size w w') :
    Calls Tryz.prog 125 #[.pointer (some ⟨g, 0, none⟩), pieceQ o sv] w fun e w' => e = .returned (.tuple #[]) ∧ BldE w' B D g b r (P ++ [o]) d ∧ FrB B D w w' := by
  have hPL : PL.length ≤ 8388608 := by rw [forall2_len h.pie]; omega
  have hw : B ≤ w.heap.size := by have := h.sb.lt; have := h.sb.cells.2.2.2.2.2.1; omega
  obtain ⟨u, y, hux⟩ := pieceQ_if o sv
  have HX : Hid (pieceQ o sv = .iface u y) := hux
  have HH : Hid (Bld w B D g b r P d pv PL l ∧ OwnA w B sv o.A ∧ (∀ k, D k → k < w.heap.size) ∧ B ≤ w.heap.size) := ⟨h, hsv, hD, hw⟩
  rw [hux] at cj ⊢
  clear h hsv hD hl hux hw
  go_enter Tryz.func125, Tryz.ntmps125
  go_wp2_with fail
  refine cj.mono ?_; rintro e w1 ⟨rfl, hb1⟩
  have H1 := HH.out.1.below hb1
  have cr := sbReset_any B g _ _ _ _ _ w1 H1.sb
  have HK : Hid (Bld w1 B D g b r P d pv PL l ∧ Below w.heap.size w w1) := ⟨H1, hb1⟩
  clear cj hb1 H1
  go_wp2_with fail
  refine cr.mono ?_; rintro e w2 ⟨rfl, h2, f2⟩
  obtain ⟨_, _, q2, _, fz2, hBg, cs2, hk2⟩ := h2.cells
  obtain ⟨_, _, _, _, _, _, cs1, hk1⟩ := HK.out.1.sb.cells
  have r2 := f2.rowI HK.out.1.row hk1
  have p2 : PieD w2 B PL P := HK.out.1.pie.keep f2.keepA
  have s2 : OwnA w2 B sv o.A := keepA_own (owns_below HH.out.2.1 HK.out.2) f2.keepA
  have F2 : FrB B D w w2 := (FrB.of_below HK.out.2 HH.out.2.2.2).trans (f2.mono fun k hk e => HH.out.1.nd (e ▸ hk))
  have ba : Below w2.heap.size w2 (w2.alloc (.cells #[.iface u y] 56)) := (Below.refl _ _).alloc (Nat.le_refl _) _
  have hB2 : B ≤ w2.heap.size := Nat.le_trans HH.out.2.2.2 F2.below.size
  have HG : Hid (SbE (w2.alloc (.cells #[.iface u y] 56)) B g (.int .i64 b) (.int .i64 r) pv (.int .i64 d) [] ∧ PieD (w2.alloc (.cells #[.iface u y] 56)) B PL P ∧ OwnA (w2.alloc (.cells #[.iface u y] 56)) B sv o.A ∧ FrB B D w (w2.alloc (.cells #[.iface u y] 56)) ∧ B ≤ g ∧ w.heap.size ≤ w2.heap.size) := ⟨h2.below ba, p2.below ba, owns_below s2 ba, F2.alloc hB2 _, hBg, F2.below.size⟩
  have HR : OwnI (w2.alloc (.cells #[.iface u y] 56)) B pv PL := owns_below r2 ba
  have hu6 : (w2.alloc (.cells #[.iface u y] 56)).cell? ⟨w2.heap.size, 0, none⟩ = some (.iface u y) := by simp
  have hbs : B ≤ (w2.alloc (.cells #[.iface u y] 56)).heap.size := Nat.le_trans hB2 ba.size
  have HKR : Hid (OwnI (w2.alloc (.cells #[.iface u y] 56)) B pv PL) := HR
  clear cr h2 f2 r2 p2 s2 F2 hk1 hk2 ba HK HR
  have HW : Hid (∀ (p8 : Option Addr) (c8 : Nat) (w8 : World), OwnI w8 B (.slice p8 (PL ++ [Value.iface u y]).length c8) (PL ++ [.iface u y]) → (w2.alloc (.cells #[.iface u y] 56)).grownBy w8 pv.ownBlock → ((Value.slice p8 (PL ++ [Value.iface u y]).length c8).ownBlock = pv.ownBlock ∨ (Value.slice p8 (PL ++ [Value.iface u y]).length c8).ownBlock = some (w2.alloc (.cells #[.iface u y] 56)).heap.size) →
      w8.cell? ⟨g, 2, none⟩ = some pv ∧ w8.frozen? ⟨g, 2, none⟩ = false ∧ BldE (w8.setCell ⟨g, 2, none⟩ (.slice p8 (PL ++ [Value.iface u y]).length c8)) B D g b r (P ++ [o]) d ∧ FrB B D w (w8.setCell ⟨g, 2, none⟩ (.slice p8 (PL ++ [Value.iface u y]).length c8))) := fun p8 c8 w8 z1 z4 z5 => by
    have hrow : ∀ k, pv.ownBlock = some k → ∃ cs T fz, (w2.alloc (.cells #[.iface u y] 56)).heap[k]? = some (.cells cs T fz) ∧ T ≠ 99 ∧ T ≠ 5 := fun k hk => by
      obtain ⟨_, cur, h2⟩ := owns_block HKR.out k hk
      exact ⟨cur, _, _, h2, by decide, by decide⟩
    obtain ⟨y1, y2, y3, y4, y5, y6⟩ := HG.out
    have z2 := y1.grown z4 hrow
    have z3 := keepA_grownI HKR.out z4
    obtain ⟨_, _, m2, _, mf, _, cs8, hk8⟩ := z2.cells
    have ne8 := own_ne z1 hk8
    refine ⟨m2, mf 2, ⟨_, _, [], z2.set2 _, HH.out.1.nd, ownsRow_setCell_other z1 ne8 _, fun k hk => ?_, ?_, Or.inl rfl⟩, ?_⟩
    · rcases z5 with e | e
      · exact HH.out.1.rnd k (by rw [← e]; exact hk)
      · intro hd
        rw [e] at hk
        have := HH.out.2.2.1 k hd
        simp only [Option.some.injEq, World.size_alloc] at hk
        omega
    · have hA : KeepA w8 (w8.setCell ⟨g, 2, none⟩ (.slice p8 (PL ++ [Value.iface u y]).length c8)) := ((FrB.refl B (fun k => k ≠ g) w8).setCell hk8 (by decide) y5 (by simp) _).keepA
      exact PieD.keep (forall2_append (y2.keep z3) (.cons ⟨sv, HX.out.symm, keepA_own y3 z3⟩ .nil)) hA
    · refine (y4.grown z4 (Nat.le_trans HH.out.2.2.2 (by rw [World.size_alloc]; omega)) fun k hk => ?_).setCell hk8 (by decide) y5 HH.out.1.nd _
      obtain ⟨hB, cur, h2⟩ := owns_block HKR.out k hk
      exact ⟨hB, cur, _, _, h2, by decide, fun hd => absurd hd (HH.out.1.rnd k hk)⟩
  clear HG HH HX hBg hB2
  go_wp2_with (at_builtin; refine wpList_append_piAt rfl (.tmp 33) (.tmp 35) rfl B pv PL rfl HKR.out w2.heap.size 1 (.iface u y) rfl hu6 rfl hPL hbs ?_; intro v8 w8 own8 gr8 at8; obtain ⟨p8, c8, rfl⟩ := own_slice own8; obtain ⟨m2, mf2, hq⟩ := HW.out p8 c8 w8 own8 gr8 at8; have HQ : Hid _ := hq; clear own8 gr8 at8 hq HW hu6 q2 HKR)
  go_end0
  refine ⟨rfl, ?_⟩
  have hq := HQ.out
  rw [show (PL ++ [Value.iface u y]).length = PL.length + 1 by simp] at hq
  exact hq
set_option maxHeartbeats 4000000 in
set_option maxRecDepth 100000 in
theorem add_set {B g : Nat} {D : Nat → Prop} {b r : Int} {F : List Op5} {x x' : Op5} {d : Int} {pv : Value} {PL : List Value} {l : List UInt8} (o : Op5) (s sv : Value) (FL : List Value) (w : World) (h : Bld w B D g b r (F ++ [x]) d pv PL l) (hPL : PL = FL ++ [pieceQ x s]) (hF : PieD w B FL F) (hs : OwnA w B s x.A) (hD : ∀ k, D k → k < w.heap.size) (hl : F.length ≤ 4194304) (hA : x'.A = x.A)
    (cj : Calls Tryz.prog 140 #[.pointer (some ⟨g, 0, none⟩), pieceQ o sv] w fun e w' => e = .returned (.tuple #[pieceQ x' s, .bool true]) ∧ (∃ l', SbE w' B g (.int .i64 b) (.int .i64 r) pv (.int .i64 d) l' ∧ (l' = [] ∨ (x'.k = 1 ∧ l' = x'.t.data.toList))) ∧ FrB B (fun k => k ≠ g) w w') :
    Calls Tryz.prog 125 #[.pointer (some ⟨g, 0, none⟩), pieceQ o sv] w fun e w' => e = .returned (.tuple #[]) ∧ BldE w' B D g b r (F ++ [x']) d ∧ FrB B D w w' := by
  obtain ⟨u, y, hux⟩ := pieceQ_if o sv
  obtain ⟨u', y', hux'⟩ := pieceQ_if x' s
  have HX : Hid (pieceQ x' s = .iface u' y') := hux'
  subst hPL
  have hrow := h.row
  obtain ⟨pb, cap, hpv⟩ : ∃ pb cap, pv = .slice (some ⟨pb, 0, none⟩) (FL.length + 1) cap := by
    obtain ⟨q, c, z, e, _⟩ := own_cell hrow FL.length (by simp)
    exact ⟨q, c, by rw [e]; simp⟩
  subst hpv
  obtain ⟨n, hn⟩ : ∃ n, FL.length = n := ⟨_, rfl⟩
  have hn1 : (FL ++ [pieceQ x s]).length = n + 1 := by simp [hn]
  have hnl : n ≤ 4194304 := by rw [← hn, forall2_len hF]; exact hl
  have HH : Hid (Bld w B D g b r (F ++ [x]) d (.slice (some ⟨pb, 0, none⟩) (FL.length + 1) cap) (FL ++ [pieceQ x s]) l ∧ PieD w B FL F ∧ OwnA w B s x.A ∧ FL.length = n) := ⟨h, hF, hs, hn⟩
  rw [hn] at cj
  rw [hux, hux'] at cj
  rw [hux]
  clear h hF hs hD hl hux hux' hrow hn1
  have hz : ((n : Int) + 1) - 1 = (n : Int) := by omega
  go_enter Tryz.func125, Tryz.ntmps125
  go_wp2_with fail
  refine cj.mono ?_; rintro e w1 ⟨rfl, ⟨l', h1, hl'⟩, f1⟩
  obtain ⟨_, _, _, _, _, _, cs0, hk0⟩ := HH.out.1.sb.cells
  obtain ⟨_, _, q2, _, _, hBg, cs1, hk1⟩ := h1.cells
  have r1 := f1.rowI HH.out.1.row hk0
  have hpb : pb ≠ g := fun e => own_ne r1 hk1 (by rw [← e]; rfl)
  obtain ⟨hBpb, cur, hkp⟩ := owns_block r1 pb rfl
  have qc : w1.cell? ⟨pb, n, none⟩ = some (pieceQ x s) := by
    have := r1.cells (g := pb) rfl n (pieceQ x s) (by rw [← HH.out.2.2.2]; simp)
    rw [Addr.add_lit, Nat.zero_add] at this
    exact this
  have qf : w1.frozen? ⟨pb, n, none⟩ = false := frozen_of_heap hkp n
  obtain ⟨old, hold⟩ : ∃ z, pieceQ x s = z := ⟨_, rfl⟩
  have hoi : ∃ u z, old = .iface u z := by rw [← hold]; exact pieceQ_if x s
  rw [hold] at qc
  have HQ : Hid (BldE (w1.drew.setCell ⟨pb, n, none⟩ (.iface u' y')) B D g b r (F ++ [x']) d ∧ FrB B D w (w1.drew.setCell ⟨pb, n, none⟩ (.iface u' y'))) := by
    have hlen : (FL ++ [pieceQ x s]).length = n + 1 := by simp [HH.out.2.2.2]
    have r1' : w1.drew.ownsRow B 56 1 (.slice (some ⟨pb, 0, none⟩) (n + 1) cap) (n + 1) (FL ++ [pieceQ x s]) := by
      have := r1
      rw [HH.out.2.2.2] at this
      rw [hlen] at this
      exact this
    have st := (r1'.stored n (.iface u' y')).1
    have e1 : (FL ++ [pieceQ x s]).set n (.iface u' y') = FL ++ [.iface u' y'] := by rw [← HH.out.2.2.2]; simp
    rw [e1] at st
    have hkp' : w1.drew.heap[pb]? = some (.cells cur 56 (0, 0)) := hkp
    have S1 : SbE w1.drew B g (.int .i64 b) (.int .i64 r) (.slice (some ⟨pb, 0, none⟩) (n + 1) cap) (.int .i64 d) l' := by obtain ⟨a1, a2, a3⟩ := h1; exact ⟨a1, a2, a3.lo, a3.at_, a3.buf, a3.adr⟩
    have hK : KeepA w1.drew (w1.drew.setCell ⟨pb, n, none⟩ (.iface u' y')) := ((FrB.refl B (fun _ => False) w1.drew).setCell hkp' (by decide) hBpb (by simp) _).keepA
    refine ⟨⟨.slice (some ⟨pb, 0, none⟩) (n + 1) cap, FL ++ [.iface u' y'], l', ?_, HH.out.1.nd, ?_, ?_, ?_, ?_⟩, ?_⟩
    · exact S1.set_other hkp' (by decide) (by decide) _
    · show World.ownsRow _ _ _ _ _ _ _
      rw [show (FL ++ [Value.iface u' y']).length = n + 1 by simp [HH.out.2.2.2]]
      exact st
    · have := HH.out.1.rnd
      exact fun k hk => this k hk
    · have p1 : PieD w1.drew B FL F := HH.out.2.1.keep f1.keepA
      have s1 : OwnA w1.drew B s x.A := keepA_own HH.out.2.2.1 f1.keepA
      exact PieD.keep (forall2_append p1 (.cons ⟨s, HX.out.symm, by rw [hA]; exact s1⟩ .nil)) hK
    · rcases hl' with e | ⟨e1, e2⟩
      · exact Or.inl e
      · exact Or.inr ⟨F, x', rfl, e1, e2⟩
    · have f2 : FrB B D w w1.drew := (f1.mono fun k hk e => HH.out.1.nd (e ▸ hk)).drew
      exact f2.setCell hkp' (by decide) hBpb (HH.out.1.rnd pb rfl) _
  have hpg : g ≠ pb := fun e => hpb e.symm
  obtain ⟨uo, zo, rfl⟩ := hoi
  clear cj h1 f1 r1 hkp hl' hk0 hk1 hold HH HX hA
  go_wp2
  go_region
  all_goals go_wp2
  all_goals (refine bodyPost_ret (results_none rfl _ _ _) rfl ?_; exact ⟨rfl, HQ.out⟩)
end Go.Proofs.YtalfdjglbbmjcaaGreatDoor
