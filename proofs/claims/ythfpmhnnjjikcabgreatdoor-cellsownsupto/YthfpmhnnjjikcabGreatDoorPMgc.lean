/- build: Of and Empty: the delta of a list of operations. A delta gone through in pieces, purely. What the reference of layer 1 answers: Scalar, Encode (and what its decoder needs: places, numbers, owned rows of numbers). Cells one by one, as plain data: their error, the operation that inserts one. cells.Like, cells.Same; vellumref09.Like, vellumref09.Same. cells.insert, cells.Check. cells.push, cells.Of. Cells among the arguments, one or a slice of them: what their reading gives the walk, with all their texts' bounds. cells.Of of any list of cells. What the reference's first answers: the scalar with whose encoding a text begins at a place. What the reference's first and decode answer. What the reference's decode, Breaks, List and Check answer. What the reference of layer 2 answers: text, Check, Compare. utf8.ValidString at this program: whether a text breaks nowhere. What the reference of layer 3 says of pairs and lists: its numbers are the code's. vellumhand.Attrs and Kept. vellumhand.OverAttrs: a list of the call's own is written over and grown: what that changes. -/
import Derived.Test.YthfpmhnnjjikcabGreatDoorPMgb
import Derived.Test.YthfpmhnnjjikcabGreatDoorPMga
import Derived.Test.YthfpmhnnjjikcabGreatDoorPSc
import Derived.Test.YthfpmhnnjjikcabGreatDoorPOwn
import Derived.Test.YthfpmhnnjjikcabGreatDoorPPos
import Derived.Laws.BytesArg
import Derived.Laws.RangeString
import Derived.Laws.RangeAny
import Derived.Deep.RegionWith
import Derived.Laws.Runes
import Derived.BigQuiet
import Derived.BigRegion
import Derived.Test.YthfpmhnnjjikcabGreatDoorPCc
import Derived.Test.YthfpmhnnjjikcabGreatDoorPOpp
import Derived.PlainAid
import Derived.Handy
import Derived.Lib.QuietBelow
import Derived.OwnWalk
import Derived.Laws.AppendOwn
import Derived.Test.YthfpmhnnjjikcabGreatDoorPVs
import Derived.Shelf.Unicode.ValidAny
import Derived.Test.YthfpmhnnjjikcabGreatDoorPUtf
import Derived.Test.YthfpmhnnjjikcabGreatDoorPPc
import Derived.Test.YthfpmhnnjjikcabGreatDoorPAx
import Derived.Deep.DeepCutAuto
import Derived.Test.YthfpmhnnjjikcabGreatDoorPRk1
import Derived.Test.YthfpmhnnjjikcabGreatDoorPSpo
import Derived.ArgAppend

/- build: Of and Empty: the delta of a list of operations. -/
namespace Go.Proofs.YthfpmhnnjjikcabGreatDoor
open Go Go.RowKit Go.Lib
set_option linter.unusedVariables false
/-- What an operation is refused with, behind others of these lengths. -/
def refE (b r : Int) (o : Op5) : Nat := if opE o ≠ 0 then opE o else if 1099511627776 < b + baseO o ∨ 1099511627776 < r + resO o then 11 else 0
theorem refE_zero {b r : Int} {o : Op5} : refE b r o = 0 ↔ opE o = 0 ∧ b + baseO o ≤ 1099511627776 ∧ r + resO o ≤ 1099511627776 := by
  unfold refE
  by_cases h : opE o = 0
  · rw [if_neg (by simpa using h)]
    by_cases h2 : 1099511627776 < b + baseO o ∨ 1099511627776 < r + resO o
    · rw [if_pos h2]; constructor
      · intro h; cases h
      · rintro ⟨_, a, b⟩; omega
    · rw [if_neg h2]; exact ⟨fun _ => ⟨h, by omega, by omega⟩, fun _ => rfl⟩
  · rw [if_pos h]
    exact ⟨fun e => absurd e h, fun e => absurd e.1 h⟩
theorem sumB_cons (o : Op5) (L : List Op5) : sumB (o :: L) = baseO o + sumB L := by simp [sumB]
theorem sumR_cons (o : Op5) (L : List Op5) : sumR (o :: L) = resO o + sumR L := by simp [sumR]
theorem okE_snoc {F : List Op5} {o : Op5} (h : OkE F) (hg : refE (sumB F) (sumR F) o = 0) (hf : FitA o) (ht : txtS (F ++ [o]) ≤ 8388608) (hl : (F ++ [o]).length ≤ 4194304) : OkE (F ++ [o]) := by
  obtain ⟨g1, g2, g3⟩ := refE_zero.1 hg
  refine ⟨fun x hx => ?_, fun x hx => ?_, ht, hl, by rw [sumB_append, sumB_one]; exact g2, by rw [sumR_append, sumR_one]; exact g3⟩
  · rcases List.mem_append.1 hx with hx | hx
    · exact h.good x hx
    · rw [List.mem_singleton.1 hx]; exact g1
  · rcases List.mem_append.1 hx with hx | hx
    · exact h.fit x hx
    · rw [List.mem_singleton.1 hx]; exact hf
theorem txtS_take (E : List Op5) (k : Nat) : txtS (E.take k) ≤ txtS E := by
  have : txtS E = txtS (E.take k) + txtS (E.drop k) := by rw [← txtS_append, List.take_append_drop]
  omega
end Go.Proofs.YthfpmhnnjjikcabGreatDoor

/- A delta gone through in pieces, purely. -/
namespace Go.Proofs.YthfpmhnnjjikcabGreatDoor
open Go Go.RowKit Go.Lib
set_option linter.unusedVariables false
/-- The first n cells of an operation that has more, and the others. -/
def hd7 (o : Op5) (n : Int) : Op5 := if o.k = 1 then headO o n.toNat else ⟨o.k, o.t, o.v, n, o.A⟩
def tl7 (o : Op5) (n : Int) : Op5 := if o.k = 1 then tailO o n.toNat else ⟨o.k, o.t, o.v, o.c - n, o.A⟩
/-- A plain retain. -/
def pl7 (n : Int) : Op5 := ⟨3, ⟨#[]⟩, z0, n, []⟩
/-- A piece of at most n cells, and what is left. -/
def nx7 : List Op5 → Int → Op5 × List Op5
  | [], n => (pl7 (min n 1099511627776), [])
  | o :: r, n => if len5 o ≤ n then (o, r) else (hd7 o n, tl7 o n :: r)
def left7 : List Op5 → Int
  | [] => 1099511627776
  | o :: _ => len5 o
def kind7 : List Op5 → Int
  | [] => 3
  | o :: _ => o.k
theorem nx_all {o : Op5} {r : List Op5} {n : Int} (h : len5 o ≤ n) : nx7 (o :: r) n = (o, r) := if_pos h
theorem nx_part {o : Op5} {r : List Op5} {n : Int} (h : ¬ len5 o ≤ n) : nx7 (o :: r) n = (hd7 o n, tl7 o n :: r) := if_neg h
theorem pl_good {n : Int} (h1 : 1 ≤ n) (h2 : n ≤ 1099511627776) : opE (pl7 n) = 0 ∧ len5 (pl7 n) = n := by
  have h : cntE (pl7 n) = 0 := cnt_iff.2 ⟨by kernel_rfl, rfl, h1, h2⟩
  refine ⟨?_, by unfold len5; rw [if_neg (by show ¬ ((3 : Int) = 1 ∨ (3 : Int) = 2); decide)]; rfl⟩
  unfold opE
  rw [if_neg (by show ¬ ((3 : Int) = 1 ∨ (3 : Int) = 2); decide), if_pos (show (pl7 n).k = 3 from rfl), if_neg (by rw [h]; decide)]
  rfl

/-- What a cut operation's two pieces are. -/
structure Cut7 (o : Op5) (n : Int) : Prop where
  nk : o.k ≠ 2
  h0 : opE (hd7 o n) = 0
  t0 : opE (tl7 o n) = 0
  hk : (hd7 o n).k = o.k
  tk : (tl7 o n).k = o.k
  hA : (hd7 o n).A = o.A
  tA : (tl7 o n).A = o.A
  hl : len5 (hd7 o n) = n
  tl : len5 (tl7 o n) = len5 o - n
  hz : (hd7 o n).t.size ≤ o.t.size
  tz : (tl7 o n).t.size ≤ o.t.size
  hv : (hd7 o n).v = o.v
  tv : (tl7 o n).v = o.v
  un : unitsO o = unitsO (hd7 o n) ++ unitsO (tl7 o n)
theorem opE_12 {o : Op5} (h : Ins o) (hk : o.k = 1 ∨ o.k = 2) : opE o = 0 := by
  unfold opE; rw [if_pos hk]; exact h.zero
theorem opE_3 {o : Op5} (h : Cnt o) (hA : listE true none o.A = 0) (hk : o.k = 3) : opE o = 0 := by
  unfold opE
  rw [if_neg (by omega), if_pos hk, if_neg (by rw [cnt_iff.2 h]; decide)]
  exact hA
theorem opE_4 {o : Op5} (h : Cnt o) (hA : o.A = []) (hk : o.k = 4) : opE o = 0 := by
  unfold opE
  rw [if_neg (by omega), if_neg (by omega), if_pos hk, if_neg (by rw [hA]; simp)]
  exact cnt_iff.2 h
theorem cut7 {o : Op5} {n : Int} (h : opE o = 0) (h1 : 1 ≤ n) (h2 : n < len5 o) : Cut7 o n := by
  rcases op_good h with ⟨hi, hk⟩ | ⟨hc, hA, hk⟩ | ⟨hc, hA, hk⟩
  · have e : len5 o = (lenO o : Int) := by unfold len5; rw [if_pos hk]
    rw [e] at h2
    obtain ⟨k1, kl⟩ := lenO_2 hi (by omega)
    obtain ⟨m, rfl⟩ : ∃ m : Nat, n = m := ⟨n.toNat, by omega⟩
    have hm : m < (scs o.t.data.toList).length := by omega
    have e1 : hd7 o m = headO o m := by unfold hd7; rw [if_pos k1]; rfl
    have e2 : tl7 o m = tailO o m := by unfold tl7; rw [if_pos k1]; rfl
    obtain ⟨a1, a2⟩ := ins_head hi (m := m) (by omega) hm
    obtain ⟨b1, b2⟩ := ins_tail hi (m := m) hm
    have hv : o.v = z0 := by
      rcases hi.kind with ⟨_, hv⟩ | ⟨h2, _⟩
      · exact hv
      · omega
    have hc := cells_cut hi k1 (m := m) (by omega) hm
    refine ⟨by omega, ?_, ?_, ?_, ?_, ?_, ?_, ?_, ?_, ?_, ?_, ?_, ?_, ?_⟩
    · rw [e1]; exact opE_12 a1 (.inl rfl)
    · rw [e2]; exact opE_12 b1 (.inl rfl)
    · rw [e1, k1]; rfl
    · rw [e2, k1]; rfl
    · rw [e1]; rfl
    · rw [e2]; rfl
    · rw [e1]; unfold len5; rw [if_pos (show (headO o m).k = 1 ∨ _ from .inl rfl), a2]
    · rw [e2, e]; unfold len5; rw [if_pos (show (tailO o m).k = 1 ∨ _ from .inl rfl), b2, kl]; omega
    · rw [e1]; exact size_head o m
    · rw [e2]; exact size_tail o m
    · rw [e1, hv]; rfl
    · rw [e2, hv]; rfl
    · rw [e1, e2, unitsO_1 (.inl k1), unitsO_1 (o := headO o m) (.inl rfl), unitsO_1 (o := tailO o m) (.inl rfl), hc, List.map_append]
  · have e : len5 o = o.c := by unfold len5; rw [if_neg (by omega)]
    rw [e] at h2
    have hh := hc.hi
    have e1 : hd7 o n = ⟨o.k, o.t, o.v, n, o.A⟩ := if_neg (by omega)
    have e2 : tl7 o n = ⟨o.k, o.t, o.v, o.c - n, o.A⟩ := if_neg (by omega)
    have c1 : Cnt (hd7 o n) := by rw [e1]; exact ⟨hc.text, hc.val, h1, by show n ≤ _; omega⟩
    have c2 : Cnt (tl7 o n) := by rw [e2]; exact ⟨hc.text, hc.val, by show 1 ≤ o.c - n; omega, by show o.c - n ≤ _; omega⟩
    refine ⟨by omega, opE_3 c1 (by rw [e1]; exact hA) (by rw [e1]; exact hk), opE_3 c2 (by rw [e2]; exact hA) (by rw [e2]; exact hk), by rw [e1], by rw [e2], by rw [e1], by rw [e2], ?_, ?_, by rw [e1]; exact Nat.le_refl _, by rw [e2]; exact Nat.le_refl _, by rw [e1], by rw [e2], ?_⟩
    · rw [e1]; unfold len5; rw [if_neg (by show ¬ (o.k = 1 ∨ o.k = 2); omega)]
    · rw [e2, e]; unfold len5; rw [if_neg (by show ¬ (o.k = 1 ∨ o.k = 2); omega)]
    · rw [e1, e2, unitsO_3 hk, unitsO_3 (o := ⟨o.k, o.t, o.v, n, o.A⟩) hk, unitsO_3 (o := ⟨o.k, o.t, o.v, o.c - n, o.A⟩) hk]
      show List.replicate o.c.toNat _ = List.replicate n.toNat _ ++ List.replicate (o.c - n).toNat _
      rw [List.replicate_append_replicate]
      congr 1; omega
  · have e : len5 o = o.c := by unfold len5; rw [if_neg (by omega)]
    rw [e] at h2
    have hh := hc.hi
    have e1 : hd7 o n = ⟨o.k, o.t, o.v, n, o.A⟩ := if_neg (by omega)
    have e2 : tl7 o n = ⟨o.k, o.t, o.v, o.c - n, o.A⟩ := if_neg (by omega)
    have c1 : Cnt (hd7 o n) := by rw [e1]; exact ⟨hc.text, hc.val, h1, by show n ≤ _; omega⟩
    have c2 : Cnt (tl7 o n) := by rw [e2]; exact ⟨hc.text, hc.val, by show 1 ≤ o.c - n; omega, by show o.c - n ≤ _; omega⟩
    refine ⟨by omega, opE_4 c1 (by rw [e1]; exact hA) (by rw [e1]; exact hk), opE_4 c2 (by rw [e2]; exact hA) (by rw [e2]; exact hk), by rw [e1], by rw [e2], by rw [e1], by rw [e2], ?_, ?_, by rw [e1]; exact Nat.le_refl _, by rw [e2]; exact Nat.le_refl _, by rw [e1], by rw [e2], ?_⟩
    · rw [e1]; unfold len5; rw [if_neg (by show ¬ (o.k = 1 ∨ o.k = 2); omega)]
    · rw [e2, e]; unfold len5; rw [if_neg (by show ¬ (o.k = 1 ∨ o.k = 2); omega)]
    · rw [e1, e2, unitsO_4 hk, unitsO_4 (o := ⟨o.k, o.t, o.v, n, o.A⟩) hk, unitsO_4 (o := ⟨o.k, o.t, o.v, o.c - n, o.A⟩) hk]
      show List.replicate o.c.toNat _ = List.replicate n.toNat _ ++ List.replicate (o.c - n).toNat _
      rw [List.replicate_append_replicate]
      congr 1; omega
theorem len5_pos {o : Op5} (h : opE o = 0) : 1 ≤ len5 o := by
  rcases op_good h with ⟨hi, hk⟩ | ⟨hc, hA, hk⟩ | ⟨hc, hA, hk⟩
  · unfold len5; rw [if_pos hk]; have := lenO_pos hi; omega
  · unfold len5; rw [if_neg (by omega)]; exact hc.lo
  · unfold len5; rw [if_neg (by omega)]; exact hc.lo

/-- What is left of a canonical delta is canonical, and fits as it did. -/
structure Rst (E : List Op5) (N T K : Nat) : Prop where
  good : ∀ o ∈ E, opE o = 0
  fit : ∀ o ∈ E, FitA o
  txt : txtS E ≤ T
  attr : ∀ o ∈ E, o.A.length ≤ K
  len : E.length ≤ N
  chain : chainB E = true
  last : lastP E = true
  base : sumB E ≤ 1099511627776
  res : sumR E ≤ 1099511627776
theorem Rst.size {E : List Op5} {N T K : Nat} (h : Rst E N T K) : ∀ o ∈ E, o.t.size ≤ T := fun o ho => Nat.le_trans (txtS_mem ho) h.txt
theorem txtS_cons (o : Op5) (r : List Op5) : txtS (o :: r) = o.t.size + txtS r := by unfold txtS; rfl
theorem Rst.nil (N T K : Nat) : Rst [] N T K := ⟨fun _ h => (by cases h), fun _ h => (by cases h), Nat.zero_le _, fun _ h => (by cases h), Nat.zero_le _, rfl, rfl, by show (0 : Int) ≤ _; omega, by show (0 : Int) ≤ _; omega⟩
theorem lastP_cons {x y : Op5} {r : List Op5} : lastP (x :: y :: r) = lastP (y :: r) := by
  unfold lastP
  rw [List.getLast?_cons_cons]
theorem Rst.tail {x : Op5} {r : List Op5} {N T K : Nat} (h : Rst (x :: r) N T K) : Rst r N T K := by
  have hx := wel_of (h.good x (List.mem_cons_self ..))
  refine ⟨fun o ho => h.good o (List.mem_cons_of_mem _ ho), fun o ho => h.fit o (List.mem_cons_of_mem _ ho), by have := h.txt; rw [txtS_cons] at this; omega, fun o ho => h.attr o (List.mem_cons_of_mem _ ho), by have := h.len; simp at this; omega, chain_tail h.chain, ?_, by have := h.base; rw [sumB_cons] at this; have := base_nn hx; omega, by have := h.res; rw [sumR_cons] at this; have := res_nn hx; omega⟩
  cases r with
  | nil => rfl
  | cons y r => rw [← lastP_cons]; exact h.last
theorem apart_same {x x' y : Op5} (hk : x'.k = x.k) (hA : x'.A = x.A) : apartB x' y = apartB x y := by unfold apartB; rw [hk, hA]
theorem plain_same {x x' : Op5} (hk : x'.k = x.k) (hA : x'.A = x.A) : plainR x' = plainR x := by unfold plainR; rw [hk, hA]
theorem Rst.part {x : Op5} {r : List Op5} {N T K : Nat} (h : Rst (x :: r) N T K) {n : Int} (h1 : 1 ≤ n) (h2 : ¬ len5 x ≤ n) : Rst (tl7 x n :: r) N T K := by
  have hx := h.good x (List.mem_cons_self ..)
  have c := cut7 hx h1 (by omega)
  have fx := h.fit x (List.mem_cons_self ..)
  have eb : baseO (tl7 x n) ≤ baseO x := by unfold baseO; rw [c.tk, c.tl]; split <;> omega
  have er : resO (tl7 x n) ≤ resO x := by unfold resO; rw [c.tk, c.tl]; split <;> omega
  refine ⟨fun o ho => ?_, fun o ho => ?_, ?_, fun o ho => ?_, by have := h.len; simp at this ⊢; omega, ?_, ?_, by have := h.base; rw [sumB_cons] at this ⊢; omega, by have := h.res; rw [sumR_cons] at this ⊢; omega⟩
  · rcases List.mem_cons.1 ho with rfl | ho
    · exact c.t0
    · exact h.good o (List.mem_cons_of_mem _ ho)
  · rcases List.mem_cons.1 ho with rfl | ho
    · exact ⟨by rw [c.tv]; exact fx.v, by rw [c.tA]; exact fx.A, by rw [c.tA]; exact fx.n⟩
    · exact h.fit o (List.mem_cons_of_mem _ ho)
  · have := h.txt
    have := c.tz
    rw [txtS_cons] at *
    omega
  · rcases List.mem_cons.1 ho with rfl | ho
    · rw [c.tA]; exact h.attr x (List.mem_cons_self ..)
    · exact h.attr o (List.mem_cons_of_mem _ ho)
  · cases r with
    | nil => rfl
    | cons y r =>
      have := h.chain
      unfold chainB at this ⊢
      rw [apart_same c.tk c.tA]; exact this
  · cases r with
    | nil =>
      have := h.last
      unfold lastP at this ⊢
      simp only [List.getLast?_singleton] at this ⊢
      rw [plain_same c.tk c.tA]; exact this
    | cons y r => rw [lastP_cons]; rw [← lastP_cons (x := x)]; exact h.last
theorem Rst.next {R : List Op5} {N T K : Nat} (h : Rst R N T K) {n : Int} (h1 : 1 ≤ n) : Rst (nx7 R n).2 N T K := by
  cases R with
  | nil => exact h
  | cons x r =>
    by_cases hn : len5 x ≤ n
    · rw [nx_all hn]; exact h.tail
    · rw [nx_part hn]; exact h.part h1 hn
theorem Rst.fitOne {x : Op5} {r : List Op5} {N T K : Nat} (h : Rst (x :: r) N T K) {n : Int} (h1 : 1 ≤ n) (h2 : ¬ len5 x ≤ n) : FitA (hd7 x n) := by
  have c := cut7 (h.good x (List.mem_cons_self ..)) h1 (by omega)
  have fx := h.fit x (List.mem_cons_self ..)
  exact ⟨by rw [c.hv]; exact fx.v, by rw [c.hA]; exact fx.A, by rw [c.hA]; exact fx.n⟩
/-- A piece that is taken is good, and has as many cells as asked for, or as there are. -/
theorem Rst.piece {R : List Op5} {N T K : Nat} (h : Rst R N T K) {n : Int} (h1 : 1 ≤ n) : opE (nx7 R n).1 = 0 ∧ FitA (nx7 R n).1 ∧ (nx7 R n).1.t.size ≤ T ∧ (nx7 R n).1.A.length ≤ K ∧ len5 (nx7 R n).1 = min n (left7 R) ∧ (nx7 R n).1.k = kind7 R := by
  cases R with
  | nil =>
    obtain ⟨p1, p2⟩ := pl_good (n := min n 1099511627776) (by omega) (by omega)
    exact ⟨p1, ⟨Nat.zero_le _, fun _ h => (by cases h), Nat.zero_le _⟩, Nat.zero_le _, Nat.zero_le _, p2, rfl⟩
  | cons x r =>
    have hx := h.good x (List.mem_cons_self ..)
    by_cases hn : len5 x ≤ n
    · rw [nx_all hn]
      exact ⟨hx, h.fit x (List.mem_cons_self ..), h.size x (List.mem_cons_self ..), h.attr x (List.mem_cons_self ..), by show len5 x = min n (len5 x); omega, rfl⟩
    · rw [nx_part hn]
      have c := cut7 hx h1 (by omega)
      exact ⟨c.h0, h.fitOne h1 hn, Nat.le_trans c.hz (h.size x (List.mem_cons_self ..)), by rw [c.hA]; exact h.attr x (List.mem_cons_self ..), by rw [c.hl]; show n = min n (len5 x); omega, c.hk⟩
/-- What has been taken and what is left have the units that were. -/
theorem Rst.units {R : List Op5} {N T K : Nat} (h : Rst R N T K) {n : Int} (h1 : 1 ≤ n) (h0 : R ≠ []) : units R = unitsO (nx7 R n).1 ++ units (nx7 R n).2 := by
  cases R with
  | nil => exact absurd rfl h0
  | cons x r =>
    by_cases hn : len5 x ≤ n
    · rw [nx_all hn]; rfl
    · rw [nx_part hn]
      have c := cut7 (h.good x (List.mem_cons_self ..)) h1 (by omega)
      show unitsO x ++ _ = unitsO (hd7 x n) ++ (unitsO (tl7 x n) ++ _)
      rw [c.un, List.append_assoc]
theorem Rst.wel {R : List Op5} {N T K : Nat} (h : Rst R N T K) : ∀ o ∈ R, Wel o := fun o ho => wel_of (h.good o ho)
end Go.Proofs.YthfpmhnnjjikcabGreatDoor

/- What the reference of layer 1 answers: Scalar, Encode (and what its decoder needs: places, numbers, owned rows of numbers). -/
namespace Go.Proofs.YthfpmhnnjjikcabGreatDoor
open Go Go.RowKit Go.Lib
set_option linter.unusedVariables false
def isScal (z : Int) : Prop := (0 ≤ z ∧ z < 55296) ∨ (57344 ≤ z ∧ z ≤ 1114111)

def ints (rs : List Nat) : List Int := rs.map fun (r : Nat) => ((r : Nat) : Int)
theorem ints_length (rs : List Nat) : (ints rs).length = rs.length := by simp [ints]
def cells32 (zs : List Int) : List Value := zs.map fun z => .int .i32 z

/-- A slice of numbers that lies in memory made since B. -/
abbrev Own32 (B : Nat) (w : World) (v : Value) (zs : List Int) : Prop := w.ownsRow B 21 1 v zs.length (cells32 zs)

theorem info32 : ∃ i z, Tryz.prog.info? 21 = some i ∧ i.zero = some z ∧ i.size = 1 ∧ i.bytes = 4 ∧ z.cells.size = 1 := by
  obtain ⟨i, hi, h⟩ := Option.map_eq_some_iff.1 (show (Tryz.prog.info? 21).map (fun i => (i.zero, i.size, i.bytes)) = some (some (.int .i32 0), 1, 4) by kernel_rfl)
  simp only [Prod.mk.injEq] at h
  exact ⟨i, _, hi, h.1, h.2.1, h.2.2, rfl⟩

def b8 (z : Int) : UInt8 := z.toNat.toUInt8

theorem conv1 (a : Int) (w : World) : (convert 130 9 (.slice (some ⟨w.heap.size, 0, none⟩) 1 1)).run Tryz.prog (w.alloc (.cells #[.int .u8 a] 5)) = .ok (.string ⟨#[b8 a]⟩) (w.alloc (.cells #[.int .u8 a] 5)) := by
  have := run_convert_bytes_arg (P := Tryz.prog) (w.alloc (.cells #[.int .u8 a] 5)) 130 5 Tryz.underlying130 Tryz.underlying5 w.heap.size 0 1 1 [a] rfl (fun i hi => by
    match i, hi with
    | 0, _ => simp) 9 Tryz.underlying9
  exact this
theorem conv2 (a b : Int) (w : World) : (convert 130 9 (.slice (some ⟨w.heap.size, 0, none⟩) 2 2)).run Tryz.prog (w.alloc (.cells #[.int .u8 a, .int .u8 b] 5)) = .ok (.string ⟨#[b8 a, b8 b]⟩) (w.alloc (.cells #[.int .u8 a, .int .u8 b] 5)) := by
  have := run_convert_bytes_arg (P := Tryz.prog) (w.alloc (.cells #[.int .u8 a, .int .u8 b] 5)) 130 5 Tryz.underlying130 Tryz.underlying5 w.heap.size 0 2 2 [a, b] rfl (fun i hi => by
    match i, hi with
    | 0, _ => simp
    | 1, _ => simp) 9 Tryz.underlying9
  exact this
theorem conv3 (a b c : Int) (w : World) : (convert 130 9 (.slice (some ⟨w.heap.size, 0, none⟩) 3 3)).run Tryz.prog (w.alloc (.cells #[.int .u8 a, .int .u8 b, .int .u8 c] 5)) = .ok (.string ⟨#[b8 a, b8 b, b8 c]⟩) (w.alloc (.cells #[.int .u8 a, .int .u8 b, .int .u8 c] 5)) := by
  have := run_convert_bytes_arg (P := Tryz.prog) (w.alloc (.cells #[.int .u8 a, .int .u8 b, .int .u8 c] 5)) 130 5 Tryz.underlying130 Tryz.underlying5 w.heap.size 0 3 3 [a, b, c] rfl (fun i hi => by
    match i, hi with
    | 0, _ => simp
    | 1, _ => simp
    | 2, _ => simp) 9 Tryz.underlying9
  exact this
theorem conv4 (a b c d : Int) (w : World) : (convert 130 9 (.slice (some ⟨w.heap.size, 0, none⟩) 4 4)).run Tryz.prog (w.alloc (.cells #[.int .u8 a, .int .u8 b, .int .u8 c, .int .u8 d] 5)) = .ok (.string ⟨#[b8 a, b8 b, b8 c, b8 d]⟩) (w.alloc (.cells #[.int .u8 a, .int .u8 b, .int .u8 c, .int .u8 d] 5)) := by
  have := run_convert_bytes_arg (P := Tryz.prog) (w.alloc (.cells #[.int .u8 a, .int .u8 b, .int .u8 c, .int .u8 d] 5)) 130 5 Tryz.underlying130 Tryz.underlying5 w.heap.size 0 4 4 [a, b, c, d] rfl (fun i hi => by
    match i, hi with
    | 0, _ => simp
    | 1, _ => simp
    | 2, _ => simp
    | 3, _ => simp) 9 Tryz.underlying9
  exact this

theorem ref_encode (r : Nat) (h : scal r) (w : World) : Calls Tryz.prog 150 #[.int .i32 r] w fun e w' => e = .returned (.string ⟨(enc r).toArray⟩) ∧ Below w.heap.size w w' := by
  have hr : (r : Int) ≤ 1114111 := by unfold scal at h; omega
  have g1 := conv1
  have g2 := conv2
  have g3 := conv3
  have g4 := conv4
  by_cases h1 : r < 128
  · have f1 : (r : Int) < 128 := by omega
    have HE : Hid (enc r = _) := enc_one h1
    clear h g2 g3 g4
    go_enter Tryz.func150, Tryz.ntmps150
    go_wp2
    go_ret
    rw [HE.out]
    exact ⟨rfl, (Below.refl _ _).alloc (Nat.le_refl _) _⟩
  by_cases h2 : r < 2048
  · have f1 : ¬ (r : Int) < 128 := by omega
    have f2 : (r : Int) < 2048 := by omega
    have HE : Hid (enc r = _) := enc_two (by omega) h2
    clear h g1 g3 g4
    go_enter Tryz.func150, Tryz.ntmps150
    go_wp2
    go_ret
    rw [HE.out]
    exact ⟨rfl, (Below.refl _ _).alloc (Nat.le_refl _) _⟩
  by_cases h3 : r < 65536
  · have f1 : ¬ (r : Int) < 128 := by omega
    have f2 : ¬ (r : Int) < 2048 := by omega
    have f3 : (r : Int) < 65536 := by omega
    have HE : Hid (enc r = _) := enc_three (by omega) h3 h
    clear h g1 g2 g4
    go_enter Tryz.func150, Tryz.ntmps150
    go_wp2
    go_ret
    rw [HE.out]
    exact ⟨rfl, (Below.refl _ _).alloc (Nat.le_refl _) _⟩
  · have f1 : ¬ (r : Int) < 128 := by omega
    have f2 : ¬ (r : Int) < 2048 := by omega
    have f3 : ¬ (r : Int) < 65536 := by omega
    have HE : Hid (enc r = _) := enc_four (by omega) (by omega)
    clear h g1 g2 g3
    go_enter Tryz.func150, Tryz.ntmps150
    go_wp2
    go_ret
    rw [HE.out]
    exact ⟨rfl, (Below.refl _ _).alloc (Nat.le_refl _) _⟩

end Go.Proofs.YthfpmhnnjjikcabGreatDoor

/- Cells one by one, as plain data: their error, the operation that inserts one. -/
namespace Go.Proofs.YthfpmhnnjjikcabGreatDoor
open Go Go.RowKit Go.Lib
set_option linter.unusedVariables false
theorem encU_eq {r : Nat} (h : scal r) : Utf8.encode (r : Int) = ⟨(enc r).toArray⟩ := by
  have hv : Utf8.valid (r : Int) = true := by
    unfold Utf8.valid
    unfold scal at h
    rcases h with h | h
    · have h1 : (0 : Int) ≤ r := by omega
      have h2 : (r : Int) < 55296 := by omega
      simp [h1, h2]
    · have h1 : (57344 : Int) ≤ r := by omega
      have h2 : (r : Int) ≤ 1114111 := by omega
      simp [h1, h2]
  unfold Utf8.encode
  simp only [hv, if_true, Int.toNat_natCast]
  by_cases h1 : r < 128
  · rw [if_pos h1, enc_one h1]; simp
  rw [if_neg h1]
  by_cases h2 : r < 2048
  · rw [if_pos h2, enc_two (by omega) h2]
    have e1 : (192 + (r : Int) / 64).toNat = 192 + r / 64 := by omega
    have e2 : (128 + (r : Int) % 64).toNat = 128 + r % 64 := by omega
    rw [e1, e2]
  rw [if_neg h2]
  by_cases h3 : r < 65536
  · rw [if_pos h3, enc_three (by omega) h3 h]
    have e1 : (224 + (r : Int) / 4096).toNat = 224 + r / 4096 := by omega
    have e2 : (128 + (r : Int) / 64 % 64).toNat = 128 + r / 64 % 64 := by omega
    have e3 : (128 + (r : Int) % 64).toNat = 128 + r % 64 := by omega
    rw [e1, e2, e3]
  · rw [if_neg h3, enc_four (by omega) (by unfold scal at h; omega)]
    have e1 : (240 + (r : Int) / 262144).toNat = 240 + r / 262144 := by omega
    have e2 : (128 + (r : Int) / 4096 % 64).toNat = 128 + r / 4096 % 64 := by omega
    have e3 : (128 + (r : Int) / 64 % 64).toNat = 128 + r / 64 % 64 := by omega
    have e4 : (128 + (r : Int) % 64).toNat = 128 + r % 64 := by omega
    rw [e1, e2, e3, e4]

/-- What no operation can say. -/
def badC (c : C5) : Prop := c.1 ≠ -1 ∧ (¬ isScal c.1 ∨ c.2.1 ≠ ⟨#[]⟩ ∨ c.2.2.1 ≠ z0)
instance (z : Int) : Decidable (isScal z) := by unfold isScal; infer_instance
instance (c : C5) : Decidable (badC c) := by unfold badC; infer_instance
/-- The error's number of a cell. -/
def celE (c : C5) : Nat := if badC c then 5 else opE (opOf c)
theorem opOf_k (c : C5) : (opOf c).k = if c.1 = -1 then 2 else 1 := by unfold opOf; split <;> rfl
theorem opOf_A (c : C5) : (opOf c).A = c.2.2.2 := by unfold opOf; split <;> rfl
theorem scal_of {z : Int} (h : isScal z) : ∃ r : Nat, z = (r : Int) ∧ scal r := by
  unfold isScal at h
  refine ⟨z.toNat, by omega, ?_⟩
  unfold scal; omega
/-- A scalar's operation. -/
theorem opOf_scal {r : Nat} (h : scal r) (A : List A2) : opOf ((r : Int), ⟨#[]⟩, z0, A) = ⟨1, ⟨(enc r).toArray⟩, z0, 0, A⟩ := by
  unfold opOf
  rw [if_neg (by simp only; omega)]
  simp
theorem enc_size {r : Nat} (h : scal r) : (⟨(enc r).toArray⟩ : ByteArray).size = (enc r).length := by simp [ByteArray.size]
theorem enc_brk {r : Nat} (h : scal r) : brk (⟨(enc r).toArray⟩ : ByteArray).data.toList = (⟨(enc r).toArray⟩ : ByteArray).size := by
  obtain ⟨s1, s2⟩ := scs_of (rs := [r]) (fun x hx => by rw [List.mem_singleton.1 hx]; exact h)
  have e2 : encs [r] = enc r := by simp [encs]
  rw [e2] at s1 s2
  show brk (enc r) = _
  rw [s2, enc_size h]
theorem enc_scs {r : Nat} (h : scal r) : scs (⟨(enc r).toArray⟩ : ByteArray).data.toList = [r] := by
  obtain ⟨s1, s2⟩ := scs_of (rs := [r]) (fun x hx => by rw [List.mem_singleton.1 hx]; exact h)
  have e2 : encs [r] = enc r := by simp [encs]
  rw [e2] at s1
  exact s1
theorem opE_scal {r : Nat} (h : scal r) (A : List A2) : opE ⟨1, ⟨(enc r).toArray⟩, z0, 0, A⟩ = listE false none A := by
  have hp := enc_pos h
  have hne : (⟨(enc r).toArray⟩ : ByteArray).toList.isEmpty = false := size_isEmp (by rw [enc_size h]; exact hp.1)
  have hb := enc_brk h
  unfold opE
  rw [if_pos (Or.inl rfl)]
  unfold insE
  have hf : fldE ⟨1, ⟨(enc r).toArray⟩, z0, 0, A⟩ = 0 := by
    unfold fldE
    rw [if_neg (by simp), if_neg (by simp only; rintro (h | ⟨_, h | h⟩); exact absurd rfl h; (rw [hne] at h; cases h); exact h rfl), if_neg (by simp)]
  rw [hf]
  simp only [ne_eq, not_true_eq_false, if_false]
  rw [if_neg (by simpa using hb), if_neg (by simp [chk_z0])]
theorem celE_bad {c : C5} (h : badC c) : celE c = 5 := if_pos h
theorem celE_op {c : C5} (h : ¬ badC c) : celE c = opE (opOf c) := if_neg h
/-- Good cells are those without an error. -/
theorem good_iff {c : C5} : celE c = 0 ↔ GoodC c := by
  obtain ⟨k, t, v, A⟩ := c
  by_cases hb : badC (k, t, v, A)
  · rw [celE_bad hb]
    refine ⟨fun h => (by cases h), fun h => ?_⟩
    obtain ⟨h1, h2⟩ := hb
    rcases h.1 with ⟨h3, _⟩ | ⟨r, h3, h4, h5, h6⟩
    · exact absurd h3 h1
    · simp only at h3 h5 h6
      rcases h2 with h2 | h2 | h2
      · exfalso; apply h2; simp only [h3]; unfold isScal; unfold scal at h4; omega
      · exact absurd h5 h2
      · exact absurd h6 h2
  · rw [celE_op hb]
    by_cases hk : k = -1
    · subst hk
      have e : opOf (-1, t, v, A) = ⟨2, t, v, 0, A⟩ := rfl
      rw [e]
      constructor
      · intro h
        have hi := ins_of (o := ⟨2, t, v, 0, A⟩) (by unfold opE at h; rwa [if_pos (Or.inr rfl)] at h)
        exact ⟨Or.inl ⟨rfl, hi.full, (hi.kind.resolve_left (by simp)).2, hi.utf, hi.val⟩, hi.set⟩
      · rintro ⟨h, hs⟩
        rcases h with ⟨_, h1, h2, h3, h4⟩ | ⟨r, h1, _⟩
        · exact opE_12 ⟨Or.inr ⟨rfl, h2⟩, h1, rfl, h3, h4, hs⟩ (Or.inr rfl)
        · simp only at h1; omega
    · have h1 : isScal k ∧ t = ⟨#[]⟩ ∧ v = z0 := by
        unfold badC at hb
        simp only [ne_eq, not_and, not_or, Decidable.not_not] at hb
        exact hb hk
      obtain ⟨h1, rfl, rfl⟩ := h1
      obtain ⟨r, rfl, hr⟩ := scal_of h1
      rw [opOf_scal hr, opE_scal hr]
      constructor
      · intro h; exact ⟨Or.inr ⟨r, rfl, hr, rfl, rfl⟩, h⟩
      · intro h; exact h.2
end Go.Proofs.YthfpmhnnjjikcabGreatDoor

/- cells.Like, cells.Same; vellumref09.Like, vellumref09.Same. -/
namespace Go.Proofs.YthfpmhnnjjikcabGreatDoor
open Go Go.RowKit Go.Lib
set_option linter.unusedVariables false
abbrev ceA (e : C5) (s : Value) : Array Value := #[.int .i32 e.1, .string e.2.1, .int .i64 e.2.2.1.1, .int .i64 e.2.2.1.2.1, .string e.2.2.1.2.2, s]
abbrev ceP (e : C5) (s : Value) : Value := .agg (ceA e s)
/-- A cell's content. -/
def lk (e : C5) : Int × ByteArray × P3 := (e.1, e.2.1, e.2.2.1)
theorem lk_ext {e e' : C5} (h : lk e = lk e') (hA : e.2.2.2 = e'.2.2.2) : e = e' := by
  obtain ⟨k, t, v, A⟩ := e
  obtain ⟨k', t', v', A'⟩ := e'
  unfold lk at h
  simp only [Prod.mk.injEq] at h hA ⊢
  exact ⟨h.1, h.2.1, h.2.2, hA⟩
abbrev bc2 (w : World) (e e' : C5) (s s' : Value) : World := (w.alloc (.cells (ceA e s) 39)).alloc (.cells (ceA e' s') 39)
theorem bc2_below (w : World) (e e' : C5) (s s' : Value) : Below w.heap.size w (bc2 w e e' s s') := ((Below.refl w.heap.size w).alloc (Nat.le_refl _) _).alloc (by simp) _
theorem bc2_5 (w : World) (e e' : C5) (s s' : Value) {w2 : World} (hb : Below (bc2 w e e' s s').heap.size (bc2 w e e' s s') w2) : w2.cell? ⟨w.heap.size, 5, none⟩ = some s ∧ w2.cell? ⟨w.heap.size + 1, 5, none⟩ = some s' :=
  ⟨(hb.cell (p := ⟨w.heap.size, 5, none⟩) (by simp; omega)).trans (by simp), (hb.cell (p := ⟨w.heap.size + 1, 5, none⟩) (by simp)).trans (by simp)⟩
set_option maxHeartbeats 1000000 in
theorem likeR9_any (e e' : C5) (s s' : Value) (w : World) (hs : ∃ p l c, s = .slice p l c) (hs' : ∃ p l c, s' = .slice p l c) :
    Calls Tryz.prog 52 #[ceP e s, ceP e' s'] w fun r w' => r = .returned (.bool (decide (lk e = lk e'))) ∧ Below w.heap.size w w' := by
  have b0 := ((Below.refl w.heap.size w).alloc (Nat.le_refl _) (.cells (ceA e s) 39)).alloc (by simp) (.cells (ceA e' s') 39)
  obtain ⟨p, l, c, rfl⟩ := hs
  obtain ⟨p', l', c', rfl⟩ := hs'
  obtain ⟨k, t, ⟨x, n, u⟩, A⟩ := e
  obtain ⟨k', t', ⟨x', n', u'⟩, A'⟩ := e'
  simp only [ceA] at b0
  have gd := fun op e e' w => guard_pl op e e' (x, n, u) (x', n', u') w
  by_cases hk : k = k'
  · subst hk
    by_cases ht : t = t'
    · subst ht
      have q1 := beq_key (x := t) (y := t) true (decide_eq_true rfl)
      by_cases hv : ((x, n, u) : P3) = (x', n', u')
      · have hne := eql_pl (x, n, u) (x', n', u') true (by rw [hv, samP_self])
        rw [decide_eq_true (show lk (k, t, (x, n, u), A) = lk (k, t, (x', n', u'), A') by unfold lk; simp only [hv])]
        clear hv
        go_enter Tryz.func52, Tryz.ntmps52
        go_wp2
        go_ret
        exact ⟨rfl, b0⟩
      · have hne := eql_pl (x, n, u) (x', n', u') false (samP_ne hv)
        rw [decide_eq_false (by intro h; exact hv (congrArg (fun z : Int × ByteArray × P3 => z.2.2) h))]
        clear hv
        go_enter Tryz.func52, Tryz.ntmps52
        go_wp2
        go_ret
        exact ⟨rfl, b0⟩
    · rw [decide_eq_false (by intro h; exact ht (congrArg (fun z : Int × ByteArray × P3 => z.2.1) h))]
      have q1 := beq_key (x := t) (y := t') false (decide_eq_false ht)
      clear ht gd
      go_enter Tryz.func52, Tryz.ntmps52
      go_wp2
      go_ret
      exact ⟨rfl, b0⟩
  · rw [decide_eq_false (by intro h; exact hk (congrArg (fun z : Int × ByteArray × P3 => z.1) h))]
    have hkk : (k == k') = false := by simpa using hk
    clear hk gd
    go_enter Tryz.func52, Tryz.ntmps52
    go_wp2
    go_ret
    exact ⟨rfl, b0⟩
set_option maxHeartbeats 1000000 in
theorem sameR9_any (e e' : C5) (s s' : Value) (w : World) (hA : RowA w s e.2.2.2) (hB : RowA w s' e'.2.2.2) (hl : e.2.2.2.length ≤ 4194304) (hl2 : e'.2.2.2.length ≤ 4194304) :
    Calls Tryz.prog 18 #[ceP e s, ceP e' s'] w fun r w' => r = .returned (.bool (decide (e = e'))) ∧ Below w.heap.size w w' := by
  have b0 := bc2_below w e e' s s'
  obtain ⟨p, c, hv, _⟩ := hA.val
  obtain ⟨p', c', hv', _⟩ := hB.val
  have cL := likeR9_any e e' s s' (bc2 w e e' s s') ⟨_, _, _, hv⟩ ⟨_, _, _, hv'⟩
  have H5 : Hid (∀ w2, Below (bc2 w e e' s s').heap.size (bc2 w e e' s s') w2 → w2.cell? ⟨w.heap.size, 5, none⟩ = some s ∧ w2.cell? ⟨w.heap.size + 1, 5, none⟩ = some s') := fun w2 hb => bc2_5 w e e' s s' hb
  have cS : Hid (∀ W, Below w.heap.size w W → Calls Tryz.prog 53 #[s, s'] W fun r w' => r = .returned (.bool (decide (e.2.2.2 = e'.2.2.2))) ∧ Below w.heap.size w w') := fun W hW => from_below hW (refSame_any s s' e.2.2.2 e'.2.2.2 W (hA.below hW) (hB.below hW) (by omega) (by omega))
  subst hv
  subst hv'
  by_cases hk : lk e = lk e'
  · rw [decide_eq_true hk] at cL
    have hd : decide (e = e') = decide (e.2.2.2 = e'.2.2.2) := decide_eq_decide.2 ⟨fun h => by rw [h], fun h => lk_ext hk h⟩
    rw [hd]
    generalize decide (e.2.2.2 = e'.2.2.2) = R at cS ⊢
    clear hA hB hk hd
    obtain ⟨k, t, ⟨x, n, u⟩, A⟩ := e
    obtain ⟨k', t', ⟨x', n', u'⟩, A'⟩ := e'
    simp only at b0 cL cS H5
    go_enter Tryz.func18, Tryz.ntmps18
    go_wp2_with fail
    refine cL.mono ?_; rintro r w2 ⟨rfl, hb2⟩
    obtain ⟨a5, b5⟩ := H5.out w2 hb2
    have b2 := b0.trans (hb2.mono b0.size)
    have c2 := cS.out w2 b2
    clear cL cS H5 hb2
    go_wp2_with fail
    refine c2.mono ?_; rintro r w3 ⟨rfl, hb3⟩
    go_wp2
    go_ret
    exact ⟨rfl, hb3⟩
  · rw [decide_eq_false hk] at cL
    rw [decide_eq_false (fun h => hk (by rw [h]))]
    clear hA hB hk cS H5
    obtain ⟨k, t, ⟨x, n, u⟩, A⟩ := e
    obtain ⟨k', t', ⟨x', n', u'⟩, A'⟩ := e'
    simp only at b0 cL
    go_enter Tryz.func18, Tryz.ntmps18
    go_wp2_with fail
    refine cL.mono ?_; rintro r w2 ⟨rfl, hb2⟩
    have b2 := b0.trans (hb2.mono b0.size)
    clear cL hb2
    go_wp2
    go_ret
    exact ⟨rfl, b2⟩
end Go.Proofs.YthfpmhnnjjikcabGreatDoor

/- cells.insert, cells.Check. -/
namespace Go.Proofs.YthfpmhnnjjikcabGreatDoor
open Go Go.RowKit Go.Lib
set_option linter.unusedVariables false
theorem width9_any (r : Int) (w : World) : Calls Tryz.prog 112 #[.int .i32 r] w fun e w' => e = .returned (.int .i64 (max 0 (runeLen r))) ∧ w' = w := by
  have c := Tryz.utf8_RuneLen r w
  obtain ⟨n, hn⟩ : ∃ n, runeLen r = n := ⟨_, rfl⟩
  rw [hn] at c ⊢
  clear hn
  go_enter Tryz.func112, Tryz.ntmps112
  go_wp2_with (go_at_call 138; refine c.mono ?_; rintro e w' ⟨rfl, rfl⟩)
  go_ret
  exact ⟨rfl, rfl⟩
theorem width9_scal {r : Nat} (h : scal r) : ∃ n : Nat, 1 ≤ n ∧ ∀ w, Calls Tryz.prog 112 #[.int .i32 r] w fun e w' => e = .returned (.int .i64 n) ∧ w' = w := by
  refine ⟨(max 0 (runeLen r)).toNat, ?_, ?_⟩
  · unfold scal at h
    unfold runeLen
    repeat' split
    all_goals omega
  · intro w
    have := width9_any r w
    rwa [show max 0 (runeLen (r : Int)) = ((max 0 (runeLen (r : Int))).toNat : Int) by omega] at this
theorem width9_not {z : Int} (h : ¬ isScal z) (w : World) : Calls Tryz.prog 112 #[.int .i32 z] w fun e w' => e = .returned (.int .i64 0) ∧ w' = w := by
  have := width9_any z w
  have e : max 0 (runeLen z) = 0 := by
    unfold isScal at h
    unfold runeLen
    repeat' split
    all_goals omega
  rwa [e] at this

set_option maxHeartbeats 2000000 in
theorem insertC_op (e : C5) (p : Option Addr) (l c : Nat) (w : World) (h : ¬ badC e) :
    Calls Tryz.prog 76 #[ceP e (.slice p l c)] w fun r w' => r = .returned (.tuple #[opV (opOf e) (.slice p l c), .nilIface]) ∧ Below w.heap.size w w' := by
  obtain ⟨k, t, ⟨x, n, u⟩, A⟩ := e
  have b0 := (Below.refl w.heap.size w).alloc (Nat.le_refl _) (.cells (ceA (k, t, (x, n, u), A) (.slice p l c)) 39)
  simp only [ceA] at b0
  by_cases hk : k = -1
  · subst hk
    rw [show opOf (-1, t, (x, n, u), A) = ⟨2, t, (x, n, u), 0, A⟩ from rfl]
    clear h
    go_enter Tryz.func76, Tryz.ntmps76
    go_wp2
    exact bodyPost_ret (v := .tuple #[opV ⟨2, t, (x, n, u), 0, A⟩ (.slice p l c), .nilIface]) (by simp [results, Tryz.results76, go_sem]) rfl ⟨rfl, by go_grown⟩
  · have h1 : isScal k ∧ t = ⟨#[]⟩ ∧ ((x, n, u) : P3) = z0 := by
      unfold badC at h
      simp only [ne_eq, not_and, not_or, Decidable.not_not] at h
      exact h hk
    obtain ⟨h1, rfl, h3⟩ := h1
    simp only [z0, Prod.mk.injEq] at h3
    obtain ⟨rfl, rfl, rfl⟩ := h3
    obtain ⟨r, rfl, hr⟩ := scal_of h1
    rw [show opOf ((r : Int), ⟨#[]⟩, (0, 0, ⟨#[]⟩), A) = ⟨1, ⟨(enc r).toArray⟩, z0, 0, A⟩ from opOf_scal hr A]
    obtain ⟨m, hm, cw⟩ := width9_scal hr
    have hr1 : ((r : Int) == -1) = false := by rw [beq_eq_false_iff_ne]; omega
    have hm0 : ((m : Int) == 0) = false := by rw [beq_eq_false_iff_ne]; omega
    have henc := encU_eq hr
    have gd := fun op x' y' w => guard_pl op x' y' z0 z0 w
    have hne := neq_pl z0 z0 false (by rw [samP_self]; rfl)
    obtain ⟨t0, ht0⟩ : ∃ t0, (⟨(enc r).toArray⟩ : ByteArray) = t0 := ⟨_, rfl⟩
    rw [ht0] at henc ⊢
    clear h h1 hr hk ht0
    go_enter Tryz.func76, Tryz.ntmps76
    go_wp2_with (go_at_call 112; refine (cw _).mono ?_; rintro e w' ⟨rfl, rfl⟩)
    exact bodyPost_ret (v := .tuple #[opV ⟨1, t0, z0, 0, A⟩ (.slice p l c), .nilIface]) (by simp [results, Tryz.results76, go_sem, z0]) rfl ⟨rfl, by go_grown⟩
set_option maxHeartbeats 4000000 in
theorem insertC_bad {I : List Nat} {a : Nat → Addr} (e : C5) (p : Option Addr) (l c : Nat) (w : World) (hI : 4 ∈ I) (hS : Std I a w) (h : badC e) :
    Calls Tryz.prog 76 #[ceP e (.slice p l c)] w fun r w' => r = .returned (.tuple #[opV opZ nilS, errV a 4]) ∧ Below w.heap.size w w' := by
  obtain ⟨k, t, ⟨x, n, u⟩, A⟩ := e
  have b0 := (Below.refl w.heap.size w).alloc (Nat.le_refl _) (.cells (ceA (k, t, (x, n, u), A) (.slice p l c)) 39)
  have gK : (w.alloc (.cells (ceA (k, t, (x, n, u), A) (.slice p l c)) 39)).cell? ⟨6, 0, none⟩ = some (errV a 4) := (hS.below b0).er.cell 4 hI
  have gK2 : ((w.alloc (.cells (ceA (k, t, (x, n, u), A) (.slice p l c)) 39)).alloc (.cells #[.int .i64 0, .string ⟨#[]⟩, .int .i64 0, .int .i64 0, .string ⟨#[]⟩, .int .i64 0, .slice none 0 0] 74)).cell? ⟨6, 0, none⟩ = some (errV a 4) := ((hS.below b0).below ((Below.refl _ _).alloc (Nat.le_refl _) _)).er.cell 4 hI
  simp only [ceA] at b0 gK gK2
  obtain ⟨hk, h⟩ := h
  simp only at hk h
  have hk1 : (k == -1) = false := by simpa using hk
  clear hS hI
  by_cases h1 : isScal k
  · obtain ⟨r, rfl, hr⟩ := scal_of h1
    obtain ⟨m, hm, cw⟩ := width9_scal hr
    have hm0 : ((m : Int) == 0) = false := by rw [beq_eq_false_iff_ne]; omega
    have gd := fun op x' y' w => guard_pl op x' y' (x, n, u) (0, 0, ⟨#[]⟩) w
    cases he : t.toList.isEmpty with
    | true =>
      have hz : ((x, n, u) : P3) ≠ z0 := by
        rcases h with h | h | h
        · exact absurd h1 h
        · exact absurd (by rw [toList_data] at he; have := emp_iff.1 (by rw [toList_data]; exact he); exact this) h
        · exact h
      have hne := neq_pl (x, n, u) (0, 0, ⟨#[]⟩) true (by show (!samP (x, n, u) z0) = true; rw [samP_ne hz]; rfl)
      clear h hk h1 hr hz
      go_enter Tryz.func76, Tryz.ntmps76
      go_wp2_with (go_at_call 112; refine (cw _).mono ?_; rintro e w' ⟨rfl, rfl⟩)
      go_region
      go_wp2
      exact bodyPost_ret (v := .tuple #[opV opZ nilS, errV a 4]) (by simp [results, Tryz.results76, go_sem, z0, opZ, nilS]) rfl ⟨rfl, by go_grown⟩
    | false =>
      clear h hk h1 hr
      go_enter Tryz.func76, Tryz.ntmps76
      go_wp2_with (go_at_call 112; refine (cw _).mono ?_; rintro e w' ⟨rfl, rfl⟩)
      go_region
      go_wp2
      exact bodyPost_ret (v := .tuple #[opV opZ nilS, errV a 4]) (by simp [results, Tryz.results76, go_sem, z0, opZ, nilS]) rfl ⟨rfl, by go_grown⟩
  · have cw := fun W => width9_not h1 W
    clear h hk h1
    go_enter Tryz.func76, Tryz.ntmps76
    go_wp2_with (go_at_call 112; refine (cw _).mono ?_; rintro e w' ⟨rfl, rfl⟩)
    go_region
    go_wp2
    exact bodyPost_ret (v := .tuple #[opV opZ nilS, errV a 4]) (by simp [results, Tryz.results76, go_sem, z0, opZ, nilS]) rfl ⟨rfl, by go_grown⟩
end Go.Proofs.YthfpmhnnjjikcabGreatDoor

/- cells.push, cells.Of. -/
namespace Go.Proofs.YthfpmhnnjjikcabGreatDoor
open Go Go.RowKit Go.Lib
set_option linter.unusedVariables false
/-- A cell that isn't too great. -/
structure FitC (e : C5) : Prop where
  t : e.2.1.size ≤ 1048576
  v : e.2.2.1.2.2.size ≤ 1048576
  A : ∀ q ∈ e.2.2.2, q.1.size ≤ 1048576 ∧ q.2.2.2.size ≤ 1048576
  n : e.2.2.2.length ≤ 1048576
theorem enc_le4 (z : Int) : (encodeRune z).length ≤ 4 := by
  unfold encodeRune encodeRuneZ
  repeat' split
  all_goals simp
theorem FitC.fit {e : C5} (h : FitC e) : Fit (opOf e) := by
  obtain ⟨k, t, v, A⟩ := e
  unfold opOf
  split
  · exact ⟨Nat.le_trans h.t (by decide), h.v, h.A, h.n⟩
  · refine ⟨?_, ?_, h.A, h.n⟩
    · have := enc_le4 ((Int.toNat k : Nat) : Int)
      show (⟨(enc k.toNat).toArray⟩ : ByteArray).size ≤ _
      have e2 : (⟨(enc k.toNat).toArray⟩ : ByteArray).size = (enc k.toNat).length := by simp [ByteArray.size]
      rw [e2]
      unfold enc
      omega
    · show (0 : Nat) ≤ _; omega
set_option maxHeartbeats 2000000 in
theorem pushC_bad {I : List Nat} {a : Nat → Addr} (g : Nat) (e : C5) (p : Option Addr) (l c : Nat) (w : World) (hI : ∀ i ∈ IxO, i ∈ I) (hS : Std I a w) (h : badC e) :
    Calls Tryz.prog 44 #[.pointer (some ⟨g, 0, none⟩), ceP e (.slice p l c)] w fun r w' => r = .returned (errV a 4) ∧ Below w.heap.size w w' := by
  have b0 := (Below.refl w.heap.size w).alloc (Nat.le_refl _) (.cells (ceA e (.slice p l c)) 39)
  have c1 := insertC_bad e p l c (w.alloc (.cells (ceA e (.slice p l c)) 39)) (hI 4 (by simp)) (hS.below b0) h
  obtain ⟨k, t, ⟨x, n, u⟩, A⟩ := e
  simp only [ceA] at b0 c1
  clear hS hI h
  go_enter Tryz.func44, Tryz.ntmps44
  go_wp2_with fail
  refine c1.mono ?_; rintro r w2 ⟨rfl, hb2⟩
  have b2 := b0.trans (hb2.mono b0.size)
  clear c1 hb2 b0
  go_wp2
  go_ret
  exact ⟨rfl, b2.alloc b2.size _⟩
set_option maxHeartbeats 2000000 in
theorem pushC_no {I : List Nat} {a : Nat → Addr} (g : Nat) (e : C5) (p : Option Addr) (l c : Nat) (w : World) (hI : ∀ i ∈ IxO, i ∈ I) (hS : Std I a w) (hR : RN w (.slice p l c) e.2.2.2) (hF : FitC e) (x : Nat) (h : celE e = x + 1) :
    Calls Tryz.prog 44 #[.pointer (some ⟨g, 0, none⟩), ceP e (.slice p l c)] w fun r w' => r = .returned (errV a x) ∧ Below w.heap.size w w' := by
  by_cases hb : badC e
  · rw [celE_bad hb] at h
    obtain rfl : x = 4 := by omega
    exact pushC_bad g e p l c w hI hS hb
  rw [celE_op hb] at h
  have b0 := (Below.refl w.heap.size w).alloc (Nat.le_refl _) (.cells (ceA e (.slice p l c)) 39)
  have c1 := insertC_op e p l c (w.alloc (.cells (ceA e (.slice p l c)) 39)) hb
  have cP : Hid (∀ W, Below w.heap.size w W → Calls Tryz.prog 73 #[.pointer (some ⟨g, 0, none⟩), opV (opOf e) (.slice p l c)] W fun r w' => r = .returned (errV a x) ∧ Below W.heap.size W w') := fun W hW =>
    pushB_no g (opOf e) p l c W hI (hS.below hW) (by rw [opOf_A]; exact hR.below hW) hF.fit x h
  obtain ⟨o, ho⟩ : ∃ o, opOf e = o := ⟨_, rfl⟩
  rw [ho] at c1 cP
  obtain ⟨ok, ot, ⟨ox, on, ou⟩, oc, oA⟩ := o
  obtain ⟨k, t, ⟨y, n, u⟩, A⟩ := e
  simp only [ceA] at b0 c1
  clear hS hI h hR hF hb ho
  go_enter Tryz.func44, Tryz.ntmps44
  go_wp2_with fail
  refine c1.mono ?_; rintro r w2 ⟨rfl, hb2⟩
  have b2 := b0.trans (hb2.mono b0.size)
  have b3 := b2.alloc b2.size (.cells #[.int .i64 ok, .string ot, .int .i64 ox, .int .i64 on, .string ou, .int .i64 oc, .slice p l c] 74)
  have c3 := cP.out _ b3
  clear c1 hb2 b0 cP
  go_wp2_with fail
  refine c3.mono ?_; rintro r w4 ⟨rfl, hb4⟩
  have b4 := b3.trans (hb4.mono b3.size)
  clear c3 hb4
  go_wp2
  go_ret
  exact ⟨rfl, b4⟩
set_option maxHeartbeats 2000000 in
theorem pushC_ok {I : List Nat} {a : Nat → Addr} {B g : Nat} {D : Nat → Prop} {F : List Op5} (e : C5) (p : Option Addr) (l c : Nat) (w : World) (hI : ∀ i ∈ IxO, i ∈ I) (hS : Std I a w) (hR : RN w (.slice p l c) e.2.2.2) (hF : FitC e) (hb : ¬ badC e) (h : Gath w B D g F) (hE : OkE (F ++ [opOf e])) (hD : ∀ k, D k → k < w.heap.size) :
    Calls Tryz.prog 44 #[.pointer (some ⟨g, 0, none⟩), ceP e (.slice p l c)] w fun r w' => r = .returned .nilIface ∧ Gath w' B D g (F ++ [opOf e]) ∧ FrB B D w w' := by
  have hBw : B ≤ w.heap.size := by have := BldE.lo h; omega
  have b0 := (Below.refl w.heap.size w).alloc (Nat.le_refl _) (.cells (ceA e (.slice p l c)) 39)
  have c1 := insertC_op e p l c (w.alloc (.cells (ceA e (.slice p l c)) 39)) hb
  have cP : Hid (∀ W, Below w.heap.size w W → Calls Tryz.prog 73 #[.pointer (some ⟨g, 0, none⟩), opV (opOf e) (.slice p l c)] W fun r w' => r = .returned .nilIface ∧ Gath w' B D g (F ++ [opOf e]) ∧ FrB B D w w') := fun W hW =>
    (pushB_ok (opOf e) p l c W hI (hS.below hW) (by rw [opOf_A]; exact hR.below hW) hF.fit (BldE.below h hW) hE (fun k hk => Nat.lt_of_lt_of_le (hD k hk) hW.size)).mono (by
      rintro r w' ⟨h1, h2, h3⟩
      exact ⟨h1, h2, (FrB.of_below hW hBw).trans h3⟩)
  obtain ⟨G, hG⟩ : ∃ G, F ++ [opOf e] = G := ⟨_, rfl⟩
  rw [hG] at cP ⊢
  obtain ⟨o, ho⟩ : ∃ o, opOf e = o := ⟨_, rfl⟩
  rw [ho] at c1 cP
  obtain ⟨ok, ot, ⟨ox, on, ou⟩, oc, oA⟩ := o
  obtain ⟨k, t, ⟨y, n, u⟩, A⟩ := e
  simp only [ceA] at b0 c1
  clear hS hI h hR hF hb ho hG hE hD hBw
  go_enter Tryz.func44, Tryz.ntmps44
  go_wp2_with fail
  refine c1.mono ?_; rintro r w2 ⟨rfl, hb2⟩
  have b2 := b0.trans (hb2.mono b0.size)
  have b3 := b2.alloc b2.size (.cells #[.int .i64 ok, .string ot, .int .i64 ox, .int .i64 on, .string ou, .int .i64 oc, .slice p l c] 74)
  have c3 := cP.out _ b3
  clear c1 hb2 b0 cP b2 b3
  go_wp2_with fail
  refine c3.mono ?_; rintro r w4 ⟨rfl, hg, hf⟩
  have HG : Hid (Gath w4 B D g G ∧ FrB B D w w4) := ⟨hg, hf⟩
  clear c3 hg hf
  go_wp2
  go_ret
  exact ⟨rfl, HG.out.1, HG.out.2⟩
end Go.Proofs.YthfpmhnnjjikcabGreatDoor

/- Cells among the arguments, one or a slice of them: what their reading gives the walk, with all their texts' bounds. -/
namespace Go.Proofs.YthfpmhnnjjikcabGreatDoor
open Go Go.RowKit Go.Lib Go.ChangeShapes Go.WideShapes Go.ChangeAt Go.Joins
set_option linter.unusedVariables false
theorem cellsCe9 : Tryz.prog.cellsOf 39 = 6 := by kernel_rfl
set_option maxRecDepth 100000 in
theorem trod_ce9 {H : Type} {enc : TypeId × Value → H} {W : World} {cs : List Value} {d : DataW H} {p : List MemPlace} {fuel : Nat} (hlen : cs.length = 6)
    (h : DataW.trod enc Tryz.prog W 0 (fun _ => true) true fuel 39 cs = some (d, p)) :
    ∃ (e : C5) (s : Value), cs = [.int .i32 e.1, .string e.2.1, .int .i64 e.2.2.1.1, .int .i64 e.2.2.1.2.1, .string e.2.2.1.2.2, s] ∧ RN W s e.2.2.2 ∧ (∀ x ∈ p, x.block < W.heap.size) ∧ (e.2.1.size ≤ Rows.uptoBulk d ∧ e.2.2.1.2.2.size ≤ Rows.uptoBulk d) ∧ e.2.2.2.length ≤ Rows.uptoBulk d ∧
      ∀ q ∈ e.2.2.2, q.1.size ≤ Rows.uptoBulk d ∧ q.2.2.2.size ≤ Rows.uptoBulk d := by
  have k0 : Tryz.prog.cellsOf 9 = 1 := by kernel_rfl
  have k1 : Tryz.prog.cellsOf 21 = 1 := by kernel_rfl
  have k5 : Tryz.prog.cellsOf 3 = 1 := by kernel_rfl
  have k2 : Tryz.prog.cellsOf 2 = 1 := by kernel_rfl
  have k3 : Tryz.prog.cellsOf 36 = 3 := cellsPlain
  have k4 : Tryz.prog.cellsOf 37 = 1 := by kernel_rfl
  obtain ⟨xs, kk, _, hxy, _, hxl, hf⟩ := DataW.trod_struct Tryz.underlying39 h
  match xs, hxl, cs, hlen with
  | [y0, y1, y2, y4], _, [v0, v1, v2, v3, v4, v6], _ =>
    have g0 := hf 0 _ rfl
    have g1 := hf 1 _ rfl
    have g2 := hf 2 _ rfl
    have g4 := hf 3 _ rfl
    simp [k1] at g0
    simp [k0] at g1
    simp [k3] at g2
    simp [k4] at g4
    obtain ⟨k, e0, rfl, _⟩ := DataW.trod_int Tryz.underlying21 g0
    obtain ⟨t, e1, rfl, _⟩ := DataW.trod_string Tryz.underlying9 g1
    obtain ⟨ys, kk', _, hxy', _, hyl, hf'⟩ := DataW.trod_struct Tryz.underlying36 g2
    obtain ⟨d4, p4⟩ := y4
    obtain ⟨L, hL, hP, hB, hE⟩ := trod_rowA g4
    match ys, hyl with
    | [z0, z1, z2], _ =>
      have j0 := hf' 0 _ rfl
      have j1 := hf' 1 _ rfl
      have j2 := hf' 2 _ rfl
      simp [k5] at j0
      simp [k2] at j1
      simp [k0] at j2
      obtain ⟨x, e4, rfl, _⟩ := DataW.trod_int Tryz.underlying3 j0
      obtain ⟨n, e5, rfl, _⟩ := DataW.trod_int Tryz.underlying2 j1
      obtain ⟨u, e6, rfl, _⟩ := DataW.trod_string Tryz.underlying9 j2
      simp at e0 e1 e4 e5 e6
      subst e0 e1 e4 e5 e6
      simp only [Prod.mk.injEq] at hxy
      subst hxy'
      obtain ⟨rfl, rfl⟩ := hxy
      refine ⟨(k, t, (x, n, u), L), v6, rfl, hL, fun y hy => hP y (by simpa using hy), ⟨?_, ?_⟩, ?_, fun q hq => ?_⟩
      · simp [Rows.uptoBulk, Rows.uptoBulkAll]; omega
      · simp [Rows.uptoBulk, Rows.uptoBulkAll]; omega
      · simp [Rows.uptoBulk, Rows.uptoBulkAll]; omega
      · have := hE q hq
        simp [Rows.uptoBulk, Rows.uptoBulkAll]
        omega
set_option maxRecDepth 100000 in
theorem open_cells9 {H : Type} {enc : TypeId × Value → H} {W : World} {base : Nat} {v : Value} {d : DataW H} {p : List MemPlace}
    (hok : Value.okWide Tryz.prog W .any base 22 v) (h : DataW.Trod enc Tryz.prog W 0 (fun _ => true) true 22 v d p) :
    ∃ (D : List CV) (E : List C5), RowC W v D ∧ Are W D E ∧ (∀ x ∈ p, x.block < W.heap.size) ∧ E.length + 1 ≤ Rows.uptoBulk d ∧ ∀ e ∈ E, (e.2.1.size ≤ Rows.uptoBulk d ∧ e.2.2.1.2.2.size ≤ Rows.uptoBulk d) ∧ e.2.2.2.length ≤ Rows.uptoBulk d ∧ ∀ q ∈ e.2.2.2, q.1.size ≤ Rows.uptoBulk d ∧ q.2.2.2.size ≤ Rows.uptoBulk d := by
  obtain ⟨a0, len0, cap0, rfl⟩ := okWide_slice Tryz.underlying22 hok
  obtain ⟨fuel, hf⟩ := h
  rcases Go.Deep.open_slice Tryz.underlying22 hf with ⟨hcs, hx⟩ | ⟨a, len, cap, m, n, D, Pl, hcs, _, hlc, _, hm, hx, hel⟩
  · have hcs' : a0 = none ∧ len0 = 0 ∧ cap0 = 0 := by simpa [Value.cells] using hcs
    obtain ⟨rfl, rfl, rfl⟩ := hcs'
    simp only [Prod.mk.injEq] at hx
    obtain ⟨rfl, rfl⟩ := hx
    exact ⟨[], [], ⟨none, 0, rfl, Nat.le_refl _, fun _ => rfl, fun h => absurd rfl h⟩, .nil, by simp, Nat.le_refl _, by simp⟩
  · have hcs' : a0 = some a ∧ len0 = len ∧ cap0 = cap := by simpa [Value.cells] using hcs
    obtain ⟨rfl, rfl, rfl⟩ := hcs'
    simp only [Prod.mk.injEq] at hx
    obtain ⟨rfl, rfl⟩ := hx
    simp only [if_true] at hm
    subst hm
    have each : ∀ i, i < m → ∃ q : C5 × Sl, (W.cell? (a.add (i * 6)) = some (.int .i32 q.1.1) ∧ W.cell? ((a.add (i * 6)).add 1) = some (.string q.1.2.1) ∧ W.cell? ((a.add (i * 6)).add 2) = some (.int .i64 q.1.2.2.1.1) ∧ W.cell? ((a.add (i * 6)).add 3) = some (.int .i64 q.1.2.2.1.2.1) ∧ W.cell? ((a.add (i * 6)).add 4) = some (.string q.1.2.2.1.2.2) ∧ W.cell? ((a.add (i * 6)).add 5) = some (slV q.2)) ∧ RN W (slV q.2) q.1.2.2.2 ∧ (∀ x ∈ Pl i, x.block < W.heap.size) ∧ (q.1.2.1.size ≤ Rows.uptoBulk (D i) ∧ q.1.2.2.1.2.2.size ≤ Rows.uptoBulk (D i)) ∧ q.1.2.2.2.length ≤ Rows.uptoBulk (D i) ∧ ∀ z ∈ q.1.2.2.2, z.1.size ≤ Rows.uptoBulk (D i) ∧ z.2.2.2.size ≤ Rows.uptoBulk (D i) := by
      intro i hi
      obtain ⟨cs', h1, h2⟩ := hel i hi
      rw [cellsCe9] at h1
      obtain ⟨_, hlen, hcell⟩ := World.cells?_some h1
      obtain ⟨e, s, hcs, hR, hP, b5, b3, b4⟩ := trod_ce9 hlen h2
      obtain ⟨x, rfl⟩ := rn_sl hR
      subst hcs
      have q0 := hcell 0 (by simp)
      have q1 := hcell 1 (by simp)
      have q2 := hcell 2 (by simp)
      have q3 := hcell 3 (by simp)
      have q4 := hcell 4 (by simp)
      have q5 := hcell 5 (by simp)
      exact ⟨(e, x), ⟨by simpa [Addr.add] using q0, by simpa [Addr.add] using q1, by simpa [Addr.add] using q2, by simpa [Addr.add] using q3, by simpa [Addr.add] using q4, by simpa [Addr.add] using q5⟩, hR, hP, b5, b3, b4⟩
    haveI : Inhabited (C5 × Sl) := ⟨((0, ⟨#[]⟩, z0, []), (none, 0, 0))⟩
    obtain ⟨q, hq⟩ := Go.Deep.choose_lt each
    have hb : ∀ i, i < len0 → Rows.uptoBulk (D i) ≤ Rows.uptoBulk (DataW.slice ((List.range len0).map D) ((List.range (m - len0)).map fun j => D (len0 + j))) := fun i hi => by
      have := bulk_mem ((List.range len0).map D) (D i) (List.mem_map.2 ⟨i, List.mem_range.2 hi, rfl⟩)
      simp only [Rows.uptoBulk]; omega
    have hlm : len0 ≤ m := by simpa using hlc
    refine ⟨(List.range len0).map fun i => ((q i).1.1, (q i).1.2.1, (q i).1.2.2.1, (q i).2), (List.range len0).map fun i => (q i).1, ⟨some a, m, by simp, by simpa using hlc, fun h => (by cases h), fun hne => ?_⟩, ?_, fun x hx => ?_, ?_, fun e he => ?_⟩
    · have hl0 : 0 < len0 := by rcases Nat.eq_zero_or_pos len0 with h | h; subst h; simp at hne; exact h
      obtain ⟨b, off, spot⟩ := a
      have h00 := (hq 0 (by omega)).1.1
      have : spot = none := by simpa [Addr.add] using World.cell?_spot h00
      subst this
      refine ⟨b, off, rfl, fun j u hu => ?_⟩
      obtain ⟨i, r, hir, hji⟩ : ∃ i r, r < 6 ∧ j = i * 6 + r := ⟨j / 6, j % 6, Nat.mod_lt _ (by decide), by omega⟩
      subst hji
      have hjl := (List.getElem?_eq_some_iff.1 hu).1
      rw [cellsC_len, List.length_map, List.length_range] at hjl
      have hi : i < len0 := by omega
      obtain ⟨y0, y1, y2, y3, y4, y5⟩ := cellsC_get ((List.range len0).map fun i => ((q i).1.1, (q i).1.2.1, (q i).1.2.2.1, (q i).2)) i ((q i).1.1, (q i).1.2.1, (q i).1.2.2.1, (q i).2) (by simp [hi])
      obtain ⟨c0, c1, c2, c3, c4, c5⟩ := (hq i (by omega)).1
      simp only [Addr.add_lit, Nat.add_assoc] at c0 c1 c2 c3 c4 c5
      match r, hir with
      | 0, _ => rw [Nat.add_zero] at hu; rw [y0] at hu; cases hu; exact c0
      | 1, _ => rw [y1] at hu; cases hu; exact c1
      | 2, _ => rw [y2] at hu; cases hu; exact c2
      | 3, _ => rw [y3] at hu; cases hu; exact c3
      | 4, _ => rw [y4] at hu; cases hu; exact c4
      | 5, _ => rw [y5] at hu; cases hu; exact c5
    · exact forall2_maps _ _ _ fun i hi => ⟨rfl, rfl, rfl, (hq i (by have := List.mem_range.1 hi; omega)).2.1⟩
    · rcases List.mem_append.1 hx with hx | hx
      · obtain ⟨i, hi, rfl⟩ := MemPlace.mem_row.1 hx
        rcases Nat.eq_zero_or_pos m with h0 | h0
        · rw [h0, Nat.zero_mul] at hi; omega
        have := lt_of_cell (hq 0 h0).1.1
        show a.block < W.heap.size
        simpa [Addr.add] using this
      · obtain ⟨i, hi, hx⟩ := List.mem_flatMap.1 hx
        exact (hq i (List.mem_range.1 hi)).2.2.1 x hx
    · have := bulk_len ((List.range len0).map D) (fun x _ => bulk_pos x)
      simp only [List.length_map, List.length_range] at this ⊢
      simp only [Rows.uptoBulk]; omega
    · obtain ⟨i, hi, rfl⟩ := List.mem_map.1 he
      have hi' : i < len0 := List.mem_range.1 hi
      have h1 := hb i hi'
      obtain ⟨_, _, _, b5, b3, b4⟩ := hq i (by omega)
      exact ⟨⟨by omega, by omega⟩, by omega, fun x hx => by have := b4 x hx; omega⟩
theorem fitC_bulk {e : C5} {n : Nat} (hn : n ≤ 1048576) (h : (e.2.1.size ≤ n ∧ e.2.2.1.2.2.size ≤ n) ∧ e.2.2.2.length ≤ n ∧ ∀ q ∈ e.2.2.2, q.1.size ≤ n ∧ q.2.2.2.size ≤ n) : FitC e :=
  ⟨by omega, by omega, fun q hq => by have := h.2.2 q hq; omega, by omega⟩
end Go.Proofs.YthfpmhnnjjikcabGreatDoor

/- cells.Of of any list of cells. -/
namespace Go.Proofs.YthfpmhnnjjikcabGreatDoor
open Go Go.RowKit Go.Lib
set_option linter.unusedVariables false
/-- The number of the first cell that isn't good, and its error. -/
def celP : List C5 → Nat × Nat
  | [] => (0, 0)
  | o :: r => if celE o ≠ 0 then (0, celE o) else if (celP r).2 = 0 then (0, 0) else ((celP r).1 + 1, (celP r).2)
theorem cel_none : ∀ {E : List C5}, (∀ o ∈ E, celE o = 0) → celP E = (0, 0)
  | [], _ => rfl
  | o :: r, h => by
    have := cel_none (E := r) fun x hx => h x (List.mem_cons_of_mem _ hx)
    rw [celP, if_neg (by simpa using h o (List.mem_cons_self ..)), this]
    rfl
theorem cel_at : ∀ {E : List C5} {k : Nat} {o : C5}, E[k]? = some o → (∀ x ∈ E.take k, celE x = 0) → celE o ≠ 0 → celP E = (k, celE o)
  | [], k, o, h, _, _ => by simp at h
  | x :: r, 0, o, h, _, he => by
    obtain rfl : x = o := by simpa using h
    rw [celP, if_pos he]
  | x :: r, k + 1, o, h, hg, he => by
    have := cel_at (E := r) (k := k) (by simpa using h) (fun y hy => hg y (by rw [List.take_succ_cons]; exact List.mem_cons_of_mem _ hy)) he
    rw [celP, if_neg (by simpa using hg x (by rw [List.take_succ_cons]; exact List.mem_cons_self ..)), this, if_neg he]
theorem celP_zero {E : List C5} : (celP E).2 = 0 ↔ ∀ o ∈ E, celE o = 0 := by
  constructor
  · intro h
    induction E with
    | nil => intro o ho; cases ho
    | cons x r ih =>
      rw [celP] at h
      by_cases hx : celE x = 0
      · rw [if_neg (by simpa using hx)] at h
        have hr : (celP r).2 = 0 := by
          by_cases h2 : (celP r).2 = 0
          · exact h2
          · rw [if_neg h2] at h; exact h
        intro o ho
        rcases List.mem_cons.1 ho with rfl | ho
        · exact hx
        · exact ih hr o ho
      · rw [if_pos hx] at h; exact absurd h hx
  · intro h; rw [cel_none h]
theorem len5_op {e : C5} (h : celE e = 0) : len5 (opOf e) = 1 := by
  have hg := good_iff.1 h
  obtain ⟨_, hu, hk⟩ := opOf_good hg
  obtain ⟨k, t, v, A⟩ := e
  unfold len5
  rw [if_pos hk]
  unfold lenO
  rcases hg.1 with ⟨h1, _⟩ | ⟨r, h1, h2, h3, h4⟩
  · simp only at h1
    subst h1
    rw [if_neg (by rw [opOf_k]; simp)]; rfl
  · simp only at h1 h3 h4
    subst h1; subst h3; subst h4
    rw [opOf_scal h2, if_pos rfl, enc_scs h2]; rfl
theorem sums_cells : ∀ (F : List C5), (∀ e ∈ F, celE e = 0) → sumB (F.map opOf) = 0 ∧ sumR (F.map opOf) = F.length
  | [], _ => ⟨rfl, rfl⟩
  | e :: F, h => by
    obtain ⟨h1, h2⟩ := sums_cells F fun x hx => h x (List.mem_cons_of_mem _ hx)
    have he := h e (List.mem_cons_self ..)
    have hk := (opOf_good (good_iff.1 he)).2.2
    rw [List.map_cons, sumB_cons, sumR_cons, h1, h2, base_1 hk]
    have : resO (opOf e) = 1 := by unfold resO; rw [if_neg (by omega), len5_op he]
    rw [this]
    exact ⟨rfl, by rw [List.length_cons]; omega⟩
theorem not_bad {e : C5} (h : celE e = 0) : ¬ badC e := fun hb => by rw [celE_bad hb] at h; cases h
theorem okE_cells {F : List C5} (h : ∀ e ∈ F, celE e = 0) (hF : ∀ e ∈ F, FitC e) (ht : txtS (F.map opOf) ≤ 8388608) (hl : F.length ≤ 1048576) : OkE (F.map opOf) := by
  obtain ⟨h1, h2⟩ := sums_cells F h
  refine ⟨fun o ho => ?_, fun o ho => ?_, ht, by rw [List.length_map]; omega, by rw [h1]; decide, by rw [h2]; omega⟩
  · obtain ⟨e, he, rfl⟩ := List.mem_map.1 ho
    have := h e he
    rwa [celE_op (not_bad this)] at this
  · obtain ⟨e, he, rfl⟩ := List.mem_map.1 ho
    exact (hF e he).fit.fitA
set_option maxHeartbeats 4000000 in
set_option maxRecDepth 100000 in
theorem ofC_any {I : List Nat} {a : Nat → Addr} (v : Value) (D0 : List CV) (E : List C5) (w : World) (hI : ∀ i ∈ IxO, i ∈ I) (hS : Std I a w) (hrow : RowC w v D0) (hre : Are w D0 E) (hF : ∀ e ∈ E, FitC e) (hl : E.length ≤ 1048576) (ht : txtS (E.map opOf) ≤ 8388608) :
    Calls Tryz.prog 10 #[v] w fun r w' => ∃ dv, r = .returned (.tuple #[dv, .int .i64 (celP E).1, errOf a (celP E).2]) ∧ ((celP E).2 = 0 → DelV w' w.heap.size w.heap.size dv (docOf E)) ∧ ((celP E).2 ≠ 0 → dv = .pointer none) ∧ Below w.heap.size w w' := by
  have hDE := forall2_len hre
  obtain ⟨n, hn⟩ : ∃ n, D0.length = n := ⟨_, rfl⟩
  obtain ⟨p, cap, rfl, hcap, hnz, hc⟩ := hrow
  have cN := new_any (B := w.heap.size) (D := fun k => k < w.heap.size) w (Nat.le_refl _) (by omega)
  have HC : Hid (D0 ≠ [] → ∃ b off, p = some ⟨b, off, none⟩ ∧ InC w b off D0) := hc
  have HN : Hid (D0.length = n ∧ E.length = n) := ⟨hn, by rw [← hDE, hn]⟩
  have hl : n ≤ 1048576 := by rw [← hn, hDE]; exact hl
  have HF : Hid ((∀ e ∈ E, FitC e) ∧ txtS (E.map opOf) ≤ 8388608) := ⟨hF, ht⟩
  have HK : Hid (∀ W (k : Nat) d e, Below w.heap.size w W → D0[k]? = some d → E[k]? = some e → ∀ g, (∀ x, celE e = x + 1 → Calls Tryz.prog 44 #[.pointer (some ⟨g, 0, none⟩), ceV d] W fun r w' => r = .returned (errV a x) ∧ Below W.heap.size W w') ∧ (∀ F, ¬ badC e → Gath W w.heap.size (fun k => k < w.heap.size) g F → OkE (F ++ [opOf e]) → Calls Tryz.prog 44 #[.pointer (some ⟨g, 0, none⟩), ceV d] W fun r w' => r = .returned .nilIface ∧ Gath w' w.heap.size (fun k => k < w.heap.size) g (F ++ [opOf e]) ∧ FrB w.heap.size (fun k => k < w.heap.size) W w')) := fun W k d e hW h1 h2 g => by
    obtain ⟨y, hy, r1⟩ := forall2_get hre k d h1
    obtain rfl : y = e := Option.some.inj (hy.symm.trans h2)
    have fy := hF y (List.mem_of_getElem? hy)
    have hR := r1.2.2.2.below hW
    have hv : ceV d = ceP y (.slice d.2.2.2.1 d.2.2.2.2.1 d.2.2.2.2.2) := by
      obtain ⟨dk, dt, dv, ds⟩ := d
      obtain ⟨x1, x2, x3, _⟩ := r1
      simp only at x1 x2 x3
      subst x1; subst x2; subst x3; rfl
    rw [hv]
    exact ⟨fun x hx => pushC_no g y _ _ _ W hI (hS.below hW) hR fy x hx, fun F hb hG hO => pushC_ok y _ _ _ W hI (hS.below hW) hR fy hb hG hO (fun k hk => Nat.lt_of_lt_of_le hk hW.size)⟩
  have HE : Hid (∀ k d, D0[k]? = some d → ∃ e, E[k]? = some e) := fun k d h => by obtain ⟨y, hy, _⟩ := forall2_get hre k d h; exact ⟨y, hy⟩
  obtain ⟨g, hgs⟩ : ∃ g, w.heap.size = g := ⟨_, rfl⟩
  have cN' : Calls Tryz.prog 43 #[] w fun e w' => e = .returned (.pointer (some ⟨g, 0, none⟩)) ∧ Gath w' w.heap.size (fun k => k < w.heap.size) g [] ∧ Below w.heap.size w w' := by rw [← hgs]; exact cN
  rw [hn] at hcap ⊢
  clear hc hn hDE hre hnz hF hS ht cN hgs
  go_enter Tryz.func10, Tryz.ntmps10
  go_wp2_with fail
  refine cN'.mono ?_; rintro r w1 ⟨rfl, hg1, hb1⟩
  have HG1 : Hid (Gath w1 w.heap.size (fun k => k < w.heap.size) g []) := hg1
  clear cN' hg1
  go_wp2
  go_loopw [12] (fun i wr => ∃ (k : Nat), k ≤ n ∧ i = .int .i64 k ∧ Hid (Gath wr w.heap.size (fun k => k < w.heap.size) g ((E.take k).map opOf)) ∧ Hid (∀ e ∈ E.take k, celE e = 0) ∧ Below w.heap.size w wr) (fun i _ => n - (RowKit.intOf i).toNat)
  case atStart => exact ⟨0, Nat.zero_le _, rfl, by rw [List.take_zero]; exact HG1, fun e he => (by rw [List.take_zero] at he; cases he), hb1⟩
  case round =>
    clear HG1 hb1
    obtain ⟨k, hk, rfl, HG, HO, hbw⟩ := hrel
    by_cases hlt : k < n
    · have hltI : (k : Int) < n := by omega
      obtain ⟨d, hd⟩ : ∃ d, D0[k]? = some d := ⟨_, List.getElem?_eq_getElem (by rw [HN.out.1]; exact hlt)⟩
      obtain ⟨e, he⟩ := HE.out k d hd
      obtain ⟨b, off, rfl, hin⟩ := HC.out (by intro e; rw [e] at hd; simp at hd)
      obtain ⟨x0, x1, x2, x3, x4, x5⟩ := cellsC_get D0 k d hd
      have c0 := (hin.below hbw) _ _ x0
      have c1 := (hin.below hbw) _ _ x1
      have c2 := (hin.below hbw) _ _ x2
      have c3 := (hin.below hbw) _ _ x3
      have c4 := (hin.below hbw) _ _ x4
      have c5 := (hin.below hbw) _ _ x5
      simp only [← Nat.add_assoc] at c0 c1 c2 c3 c4 c5
      have bw : Below wr.heap.size wr (wr.alloc (.cells (ceC d) 39)) := (Below.refl _ _).alloc (Nat.le_refl _) _
      have ba : Below w.heap.size w (wr.alloc (.cells (ceC d) 39)) := hbw.trans (bw.mono hbw.size)
      obtain ⟨cB, cG⟩ := HK.out _ k d e ba hd he g
      have HGa : Hid (Gath (wr.alloc (.cells (ceC d) 39)) w.heap.size (fun k => k < w.heap.size) g ((E.take k).map opOf)) := BldE.below HG.out bw
      have HT : Hid (E.take (k + 1) = E.take k ++ [e] ∧ E[k]? = some e) := by refine ⟨?_, he⟩; rw [List.take_add_one, he]; rfl
      obtain ⟨rz, hrz⟩ : ∃ z, celE e = z := ⟨_, rfl⟩
      cases rz with
      | zero =>
        have HO2 : Hid (∀ e ∈ E.take (k + 1), celE e = 0) := by
          show ∀ e ∈ E.take (k + 1), celE e = 0
          rw [HT.out.1]
          intro y hy
          rcases List.mem_append.1 hy with hy | hy
          · exact HO.out y hy
          · rw [List.mem_singleton.1 hy]; exact hrz
        have hok : OkE ((E.take k).map opOf ++ [opOf e]) := by
          have := okE_cells HO2.out (fun y hy => HF.out.1 y (List.mem_of_mem_take hy)) (by rw [List.map_take]; exact Nat.le_trans (txtS_take _ _) HF.out.2) (by rw [List.length_take]; omega)
          rwa [HT.out.1, List.map_append] at this
        have cP := cG ((E.take k).map opOf) (not_bad hrz) HGa.out hok
        have hm : (E.take k).map opOf ++ [opOf e] = (E.take (k + 1)).map opOf := by rw [HT.out.1, List.map_append]; rfl
        rw [hm] at cP
        clear cB cG HG HGa HO hin hd he hrz HT hok hm x0 x1 x2 x3 x4 x5
        obtain ⟨dk, dt, ⟨dx, dn, du⟩, ds⟩ := d
        obtain ⟨dp, dl, dcap⟩ := ds
        simp only [slV, ceC, ceV] at c0 c1 c2 c3 c4 c5 cP ba bw
        go_wp2_with fail
        refine cP.mono ?_; rintro r w5 ⟨rfl, h5, f5⟩
        have b5 : Below w.heap.size w w5 := ba.trans f5.below
        have HG5 : Hid (Gath w5 w.heap.size (fun k => k < w.heap.size) g ((E.take (k + 1)).map opOf)) := h5
        clear cP c0 c1 c2 c3 c4 c5 ba bw h5 f5
        go_wp2
        go_roundw
        case rel => exact ⟨k + 1, by omega, by go_num, HG5, HO2, b5⟩
        case measure => simp [RowKit.intOf]; omega
      | succ x =>
        have HB : Hid (celP E = (k, x + 1)) := by
          have := cel_at he HO.out (by rw [hrz]; omega)
          rw [hrz] at this
          exact this
        have cP := cB x hrz
        clear cB cG HG HGa HO hin hd he hrz HT x0 x1 x2 x3 x4 x5
        obtain ⟨dk, dt, ⟨dx, dn, du⟩, ds⟩ := d
        obtain ⟨dp, dl, dcap⟩ := ds
        simp only [slV, ceC, ceV] at c0 c1 c2 c3 c4 c5 cP ba bw
        go_wp2_with fail
        refine cP.mono ?_; rintro r w5 ⟨rfl, hb5⟩
        have b5 := ba.trans (hb5.mono ba.size)
        clear cP c0 c1 c2 c3 c4 c5 ba bw hb5
        go_wp2
        go_ret3
        exact ⟨.pointer none, by rw [HB.out]; rfl, fun h => (by rw [HB.out] at h; cases h), fun _ => rfl, b5⟩
    · have hltI : ¬ (k : Int) < n := by omega
      have hE : E.take k = E := List.take_of_length_le (by rw [HN.out.2]; omega)
      rw [hE] at HG HO
      have HB : Hid (celP E = (0, 0)) := cel_none HO.out
      have cD := delta_any wr HG.out (okE_cells HO.out HF.out.1 HF.out.2 (by rw [HN.out.2]; exact hl))
      clear hE HG HO
      go_wp2_with fail
      refine cD.mono ?_; rintro r w5 ⟨dv, rfl, h5, hb5⟩
      have H5 : Hid (DelV w5 w.heap.size w.heap.size dv (docOf E)) := by
        obtain ⟨q, pv, PL, x1, x2, x3, x4, x5⟩ := h5
        exact ⟨q, pv, PL, x1, Nat.le_trans hbw.size x2, x3, own_weaken x4 hbw.size, x5⟩
      have b5 := hbw.trans (hb5.mono hbw.size)
      clear cD h5 hb5
      go_wp2
      go_ret3
      exact ⟨dv, by rw [HB.out]; rfl, fun _ => H5.out, fun h => absurd (by rw [HB.out]) h, b5⟩
end Go.Proofs.YthfpmhnnjjikcabGreatDoor

/- What the reference's first answers: the scalar with whose encoding a text begins at a place. -/
namespace Go.Proofs.YthfpmhnnjjikcabGreatDoor
open Go Go.RowKit Go.Lib Go.PlainAid Go.Sort
set_option linter.unusedVariables false
theorem ne_list {a b : ByteArray} (h : ¬ a = b) : (a.toList == b.toList) = false := by
  rw [toList_data, toList_data]
  refine beq_eq_false_iff_ne.2 fun e => h ?_
  apply ByteArray.ext
  exact Array.ext' e

set_option maxHeartbeats 1000000 in
set_option maxRecDepth 100000 in
theorem rf1_non (s : ByteArray) (k : Nat) (w : World) (hs : s.size ≤ 140737488351232) (hk : k < s.size) (h0 : bt s k < 192) (hI : k + 1 ≤ s.size) (Z : Int) (hz : bt s k = Z) (hn : ¬ isScal Z) :
    Calls Tryz.prog 134 #[.string s, .int .i64 k] w fun e w' => e = .returned (.tuple #[.int .i32 0, .int .i64 0]) ∧ Below w.heap.size w w' := by
  have q0 := bt_nonneg s k
  have r0 := bt_le s k
  have c0 : ¬ bt s k ≥ 240 := by omega
  have c1 : ¬ bt s k ≥ 224 := by omega
  have c2 : ¬ bt s k ≥ 192 := by omega
  have hI' : (k : Int) + 1 ≤ s.size := by omega
  unfold isScal at hn
  exfalso; omega

set_option maxHeartbeats 1000000 in
set_option maxRecDepth 100000 in
theorem rf1_same (s : ByteArray) (k : Nat) (w : World) (hs : s.size ≤ 140737488351232) (hk : k < s.size) (h0 : bt s k < 192) (hI : k + 1 ≤ s.size) (R : Nat) (hr : scal R) (Z : Int) (hZ : Z = R) (hz : bt s k = Z) (hX : s.extract k (k + 1) = ⟨(enc R).toArray⟩) :
    Calls Tryz.prog 134 #[.string s, .int .i64 k] w fun e w' => e = .returned (.tuple #[.int .i32 Z, .int .i64 1]) ∧ Below w.heap.size w w' := by
  have hb := get_bt s
  have q0 := bt_nonneg s k
  have r0 := bt_le s k
  have c0 : ¬ bt s k ≥ 240 := by omega
  have c1 : ¬ bt s k ≥ 224 := by omega
  have c2 : ¬ bt s k ≥ 192 := by omega
  have hI' : (k : Int) + 1 ≤ s.size := by omega
  obtain ⟨E, hE⟩ : ∃ E : ByteArray, ⟨(enc R).toArray⟩ = E := ⟨_, rfl⟩
  have henc := fun W => ref_encode R hr W
  rw [← hZ] at henc
  rw [hE] at hX henc
  have hz0 : (0 : Int) ≤ Z := by omega
  clear h0 hE
  unfold scal at hr
  by_cases hm : R < 55296
  · have g0 : decide (Z ≥ 0) = true := decide_eq_true (by omega)
    have g1 : decide (Z < 55296) = true := decide_eq_true (by omega)
    clear hr hm hZ
    go_enter Tryz.func134, Tryz.ntmps134
    go_wp2
    go_rounds 4
    have hkI : (0 : Int) ≤ k ∧ (k : Int) ≤ k + 1 := by omega
    clear hb q0 r0 c0 c1 c2 hz hz0
    have cE : ∀ d os, Calls Tryz.prog 150 #[.int .i32 Z] (grow (redrawn w d) os) fun e w'' => e = .returned (.string E) ∧ ∃ p : Regrown, w'' = grow (redrawn w p.d) p.os := fun d os => Calls.regrown_of (henc _)
    clear henc
    refine wp_region_quiet_below (by kernel_rfl) (by kernel_rfl) ?_
    repeat (first | go_big_quiet_step (exact cE _ _) | quiet_step (exact cE _ _))
    refine wpQuiet_nil ?_
    intro _ hw'
    obtain ⟨⟨dq, osq⟩, hw''⟩ := hw'
    subst hw''
    go_wp2
    go_ret2
    exact ⟨rfl, below_regrown w dq osq⟩
  · have g0 : decide (Z ≥ 0) = true := decide_eq_true (by omega)
    have g1 : decide (Z < 55296) = false := decide_eq_false (by omega)
    have g2 : decide (Z ≥ 57344) = true := decide_eq_true (by omega)
    have g3 : decide (Z ≤ 1114111) = true := decide_eq_true (by omega)
    clear hr hm hZ
    go_enter Tryz.func134, Tryz.ntmps134
    go_wp2
    go_rounds 4
    have hkI : (0 : Int) ≤ k ∧ (k : Int) ≤ k + 1 := by omega
    clear hb q0 r0 c0 c1 c2 hz hz0
    have cE : ∀ d os, Calls Tryz.prog 150 #[.int .i32 Z] (grow (redrawn w d) os) fun e w'' => e = .returned (.string E) ∧ ∃ p : Regrown, w'' = grow (redrawn w p.d) p.os := fun d os => Calls.regrown_of (henc _)
    clear henc
    refine wp_region_quiet_below (by kernel_rfl) (by kernel_rfl) ?_
    repeat (first | go_big_quiet_step (exact cE _ _) | quiet_step (exact cE _ _))
    refine wpQuiet_nil ?_
    intro _ hw'
    obtain ⟨⟨dq, osq⟩, hw''⟩ := hw'
    subst hw''
    go_wp2
    go_ret2
    exact ⟨rfl, below_regrown w dq osq⟩

set_option maxHeartbeats 1000000 in
set_option maxRecDepth 100000 in
theorem rf1_other (s : ByteArray) (k : Nat) (w : World) (hs : s.size ≤ 140737488351232) (hk : k < s.size) (h0 : bt s k < 192) (hI : k + 1 ≤ s.size) (R : Nat) (hr : scal R) (Z : Int) (hZ : Z = R) (hz : bt s k = Z) (hX : ¬ ⟨(enc R).toArray⟩ = s.extract k (k + 1)) :
    Calls Tryz.prog 134 #[.string s, .int .i64 k] w fun e w' => e = .returned (.tuple #[.int .i32 0, .int .i64 0]) ∧ Below w.heap.size w w' := by
  have hb := get_bt s
  have q0 := bt_nonneg s k
  have r0 := bt_le s k
  have c0 : ¬ bt s k ≥ 240 := by omega
  have c1 : ¬ bt s k ≥ 224 := by omega
  have c2 : ¬ bt s k ≥ 192 := by omega
  have hI' : (k : Int) + 1 ≤ s.size := by omega
  obtain ⟨E, hE⟩ : ∃ E : ByteArray, ⟨(enc R).toArray⟩ = E := ⟨_, rfl⟩
  have henc := fun W => ref_encode R hr W
  rw [← hZ] at henc
  rw [hE] at hX henc
  have hXl := ne_list hX
  have hz0 : (0 : Int) ≤ Z := by omega
  clear h0 hE
  unfold scal at hr
  by_cases hm : R < 55296
  · have g0 : decide (Z ≥ 0) = true := decide_eq_true (by omega)
    have g1 : decide (Z < 55296) = true := decide_eq_true (by omega)
    clear hr hm hZ
    go_enter Tryz.func134, Tryz.ntmps134
    go_wp2
    go_rounds 4
    have hkI : (0 : Int) ≤ k ∧ (k : Int) ≤ k + 1 := by omega
    clear hb q0 r0 c0 c1 c2 hz hz0
    have cE : ∀ d os, Calls Tryz.prog 150 #[.int .i32 Z] (grow (redrawn w d) os) fun e w'' => e = .returned (.string E) ∧ ∃ p : Regrown, w'' = grow (redrawn w p.d) p.os := fun d os => Calls.regrown_of (henc _)
    clear henc
    refine wp_region_quiet_below (by kernel_rfl) (by kernel_rfl) ?_
    repeat (first | go_big_quiet_step (exact cE _ _) | quiet_step (exact cE _ _))
    refine wpQuiet_nil ?_
    intro _ hw'
    obtain ⟨⟨dq, osq⟩, hw''⟩ := hw'
    subst hw''
    go_wp2
    go_ret2
    exact ⟨rfl, below_regrown w dq osq⟩
  · have g0 : decide (Z ≥ 0) = true := decide_eq_true (by omega)
    have g1 : decide (Z < 55296) = false := decide_eq_false (by omega)
    have g2 : decide (Z ≥ 57344) = true := decide_eq_true (by omega)
    have g3 : decide (Z ≤ 1114111) = true := decide_eq_true (by omega)
    clear hr hm hZ
    go_enter Tryz.func134, Tryz.ntmps134
    go_wp2
    go_rounds 4
    have hkI : (0 : Int) ≤ k ∧ (k : Int) ≤ k + 1 := by omega
    clear hb q0 r0 c0 c1 c2 hz hz0
    have cE : ∀ d os, Calls Tryz.prog 150 #[.int .i32 Z] (grow (redrawn w d) os) fun e w'' => e = .returned (.string E) ∧ ∃ p : Regrown, w'' = grow (redrawn w p.d) p.os := fun d os => Calls.regrown_of (henc _)
    clear henc
    refine wp_region_quiet_below (by kernel_rfl) (by kernel_rfl) ?_
    repeat (first | go_big_quiet_step (exact cE _ _) | quiet_step (exact cE _ _))
    refine wpQuiet_nil ?_
    intro _ hw'
    obtain ⟨⟨dq, osq⟩, hw''⟩ := hw'
    subst hw''
    go_wp2
    go_ret2
    exact ⟨rfl, below_regrown w dq osq⟩

theorem rf2_out (s : ByteArray) (k : Nat) (w : World) (hs : s.size ≤ 140737488351232) (hk : k < s.size) (h0 : 192 ≤ bt s k) (h1 : bt s k < 224) (ho : s.size < k + 2) :
    Calls Tryz.prog 134 #[.string s, .int .i64 k] w fun e w' => e = .returned (.tuple #[.int .i32 0, .int .i64 0]) ∧ Below w.heap.size w w' := by
  have hb := get_bt s
  have q0 := bt_nonneg s k
  have r0 := bt_le s k
  have c0 : ¬ bt s k ≥ 240 := by omega
  have c1 : ¬ bt s k ≥ 224 := by omega
  have c2 : bt s k ≥ 192 := by omega
  have hI : ¬ (k : Int) + 2 ≤ s.size := by omega
  clear h0 h1
  go_enter Tryz.func134, Tryz.ntmps134
  go_wp2
  go_ret2
  exact ⟨rfl, Below.refl _ _⟩

set_option maxHeartbeats 1000000 in
set_option maxRecDepth 100000 in
theorem rf2_non (s : ByteArray) (k : Nat) (w : World) (hs : s.size ≤ 140737488351232) (hk : k < s.size) (h0 : 192 ≤ bt s k) (h1 : bt s k < 224) (hI : k + 2 ≤ s.size) (Z : Int) (hz : (bt s k - 192) * 64 + bt s (k + 1) % 64 = Z) (hn : ¬ isScal Z) :
    Calls Tryz.prog 134 #[.string s, .int .i64 k] w fun e w' => e = .returned (.tuple #[.int .i32 0, .int .i64 0]) ∧ Below w.heap.size w w' := by
  have q0 := bt_nonneg s k
  have r0 := bt_le s k
  have q1 := bt_nonneg s (k + 1)
  have r1 := bt_le s (k + 1)
  have c0 : ¬ bt s k ≥ 240 := by omega
  have c1 : ¬ bt s k ≥ 224 := by omega
  have c2 : bt s k ≥ 192 := by omega
  have hI' : (k : Int) + 2 ≤ s.size := by omega
  unfold isScal at hn
  exfalso; omega

set_option maxHeartbeats 1000000 in
set_option maxRecDepth 100000 in
theorem rf2_same (s : ByteArray) (k : Nat) (w : World) (hs : s.size ≤ 140737488351232) (hk : k < s.size) (h0 : 192 ≤ bt s k) (h1 : bt s k < 224) (hI : k + 2 ≤ s.size) (R : Nat) (hr : scal R) (Z : Int) (hZ : Z = R) (hz : (bt s k - 192) * 64 + bt s (k + 1) % 64 = Z) (hX : s.extract k (k + 2) = ⟨(enc R).toArray⟩) :
    Calls Tryz.prog 134 #[.string s, .int .i64 k] w fun e w' => e = .returned (.tuple #[.int .i32 Z, .int .i64 2]) ∧ Below w.heap.size w w' := by
  have hb := get_bt s
  have q0 := bt_nonneg s k
  have r0 := bt_le s k
  have q1 := bt_nonneg s (k + 1)
  have r1 := bt_le s (k + 1)
  have c0 : ¬ bt s k ≥ 240 := by omega
  have c1 : ¬ bt s k ≥ 224 := by omega
  have c2 : bt s k ≥ 192 := by omega
  have hI' : (k : Int) + 2 ≤ s.size := by omega
  obtain ⟨E, hE⟩ : ∃ E : ByteArray, ⟨(enc R).toArray⟩ = E := ⟨_, rfl⟩
  have henc := fun W => ref_encode R hr W
  rw [← hZ] at henc
  rw [hE] at hX henc
  have hz0 : (0 : Int) ≤ Z := by omega
  clear h0 h1 hE
  unfold scal at hr
  by_cases hm : R < 55296
  · have g0 : decide (Z ≥ 0) = true := decide_eq_true (by omega)
    have g1 : decide (Z < 55296) = true := decide_eq_true (by omega)
    clear hr hm hZ
    go_enter Tryz.func134, Tryz.ntmps134
    go_wp2
    go_rounds 4
    have hkI : (0 : Int) ≤ k ∧ (k : Int) ≤ k + 2 := by omega
    clear hb q0 r0 q1 r1 c0 c1 c2 hz hz0
    have cE : ∀ d os, Calls Tryz.prog 150 #[.int .i32 Z] (grow (redrawn w d) os) fun e w'' => e = .returned (.string E) ∧ ∃ p : Regrown, w'' = grow (redrawn w p.d) p.os := fun d os => Calls.regrown_of (henc _)
    clear henc
    refine wp_region_quiet_below (by kernel_rfl) (by kernel_rfl) ?_
    repeat (first | go_big_quiet_step (exact cE _ _) | quiet_step (exact cE _ _))
    refine wpQuiet_nil ?_
    intro _ hw'
    obtain ⟨⟨dq, osq⟩, hw''⟩ := hw'
    subst hw''
    go_wp2
    go_ret2
    exact ⟨rfl, below_regrown w dq osq⟩
  · have g0 : decide (Z ≥ 0) = true := decide_eq_true (by omega)
    have g1 : decide (Z < 55296) = false := decide_eq_false (by omega)
    have g2 : decide (Z ≥ 57344) = true := decide_eq_true (by omega)
    have g3 : decide (Z ≤ 1114111) = true := decide_eq_true (by omega)
    clear hr hm hZ
    go_enter Tryz.func134, Tryz.ntmps134
    go_wp2
    go_rounds 4
    have hkI : (0 : Int) ≤ k ∧ (k : Int) ≤ k + 2 := by omega
    clear hb q0 r0 q1 r1 c0 c1 c2 hz hz0
    have cE : ∀ d os, Calls Tryz.prog 150 #[.int .i32 Z] (grow (redrawn w d) os) fun e w'' => e = .returned (.string E) ∧ ∃ p : Regrown, w'' = grow (redrawn w p.d) p.os := fun d os => Calls.regrown_of (henc _)
    clear henc
    refine wp_region_quiet_below (by kernel_rfl) (by kernel_rfl) ?_
    repeat (first | go_big_quiet_step (exact cE _ _) | quiet_step (exact cE _ _))
    refine wpQuiet_nil ?_
    intro _ hw'
    obtain ⟨⟨dq, osq⟩, hw''⟩ := hw'
    subst hw''
    go_wp2
    go_ret2
    exact ⟨rfl, below_regrown w dq osq⟩

set_option maxHeartbeats 1000000 in
set_option maxRecDepth 100000 in
theorem rf2_other (s : ByteArray) (k : Nat) (w : World) (hs : s.size ≤ 140737488351232) (hk : k < s.size) (h0 : 192 ≤ bt s k) (h1 : bt s k < 224) (hI : k + 2 ≤ s.size) (R : Nat) (hr : scal R) (Z : Int) (hZ : Z = R) (hz : (bt s k - 192) * 64 + bt s (k + 1) % 64 = Z) (hX : ¬ ⟨(enc R).toArray⟩ = s.extract k (k + 2)) :
    Calls Tryz.prog 134 #[.string s, .int .i64 k] w fun e w' => e = .returned (.tuple #[.int .i32 0, .int .i64 0]) ∧ Below w.heap.size w w' := by
  have hb := get_bt s
  have q0 := bt_nonneg s k
  have r0 := bt_le s k
  have q1 := bt_nonneg s (k + 1)
  have r1 := bt_le s (k + 1)
  have c0 : ¬ bt s k ≥ 240 := by omega
  have c1 : ¬ bt s k ≥ 224 := by omega
  have c2 : bt s k ≥ 192 := by omega
  have hI' : (k : Int) + 2 ≤ s.size := by omega
  obtain ⟨E, hE⟩ : ∃ E : ByteArray, ⟨(enc R).toArray⟩ = E := ⟨_, rfl⟩
  have henc := fun W => ref_encode R hr W
  rw [← hZ] at henc
  rw [hE] at hX henc
  have hXl := ne_list hX
  have hz0 : (0 : Int) ≤ Z := by omega
  clear h0 h1 hE
  unfold scal at hr
  by_cases hm : R < 55296
  · have g0 : decide (Z ≥ 0) = true := decide_eq_true (by omega)
    have g1 : decide (Z < 55296) = true := decide_eq_true (by omega)
    clear hr hm hZ
    go_enter Tryz.func134, Tryz.ntmps134
    go_wp2
    go_rounds 4
    have hkI : (0 : Int) ≤ k ∧ (k : Int) ≤ k + 2 := by omega
    clear hb q0 r0 q1 r1 c0 c1 c2 hz hz0
    have cE : ∀ d os, Calls Tryz.prog 150 #[.int .i32 Z] (grow (redrawn w d) os) fun e w'' => e = .returned (.string E) ∧ ∃ p : Regrown, w'' = grow (redrawn w p.d) p.os := fun d os => Calls.regrown_of (henc _)
    clear henc
    refine wp_region_quiet_below (by kernel_rfl) (by kernel_rfl) ?_
    repeat (first | go_big_quiet_step (exact cE _ _) | quiet_step (exact cE _ _))
    refine wpQuiet_nil ?_
    intro _ hw'
    obtain ⟨⟨dq, osq⟩, hw''⟩ := hw'
    subst hw''
    go_wp2
    go_ret2
    exact ⟨rfl, below_regrown w dq osq⟩
  · have g0 : decide (Z ≥ 0) = true := decide_eq_true (by omega)
    have g1 : decide (Z < 55296) = false := decide_eq_false (by omega)
    have g2 : decide (Z ≥ 57344) = true := decide_eq_true (by omega)
    have g3 : decide (Z ≤ 1114111) = true := decide_eq_true (by omega)
    clear hr hm hZ
    go_enter Tryz.func134, Tryz.ntmps134
    go_wp2
    go_rounds 4
    have hkI : (0 : Int) ≤ k ∧ (k : Int) ≤ k + 2 := by omega
    clear hb q0 r0 q1 r1 c0 c1 c2 hz hz0
    have cE : ∀ d os, Calls Tryz.prog 150 #[.int .i32 Z] (grow (redrawn w d) os) fun e w'' => e = .returned (.string E) ∧ ∃ p : Regrown, w'' = grow (redrawn w p.d) p.os := fun d os => Calls.regrown_of (henc _)
    clear henc
    refine wp_region_quiet_below (by kernel_rfl) (by kernel_rfl) ?_
    repeat (first | go_big_quiet_step (exact cE _ _) | quiet_step (exact cE _ _))
    refine wpQuiet_nil ?_
    intro _ hw'
    obtain ⟨⟨dq, osq⟩, hw''⟩ := hw'
    subst hw''
    go_wp2
    go_ret2
    exact ⟨rfl, below_regrown w dq osq⟩

theorem rf3_out (s : ByteArray) (k : Nat) (w : World) (hs : s.size ≤ 140737488351232) (hk : k < s.size) (h0 : 224 ≤ bt s k) (h1 : bt s k < 240) (ho : s.size < k + 3) :
    Calls Tryz.prog 134 #[.string s, .int .i64 k] w fun e w' => e = .returned (.tuple #[.int .i32 0, .int .i64 0]) ∧ Below w.heap.size w w' := by
  have hb := get_bt s
  have q0 := bt_nonneg s k
  have r0 := bt_le s k
  have c0 : ¬ bt s k ≥ 240 := by omega
  have c1 : bt s k ≥ 224 := by omega
  have hI : ¬ (k : Int) + 3 ≤ s.size := by omega
  clear h0 h1
  go_enter Tryz.func134, Tryz.ntmps134
  go_wp2
  go_ret2
  exact ⟨rfl, Below.refl _ _⟩

set_option maxHeartbeats 1000000 in
set_option maxRecDepth 100000 in
theorem rf3_non (s : ByteArray) (k : Nat) (w : World) (hs : s.size ≤ 140737488351232) (hk : k < s.size) (h0 : 224 ≤ bt s k) (h1 : bt s k < 240) (hI : k + 3 ≤ s.size) (Z : Int) (hz : ((bt s k - 224) * 64 + bt s (k + 1) % 64) * 64 + bt s (k + 2) % 64 = Z) (hn : ¬ isScal Z) :
    Calls Tryz.prog 134 #[.string s, .int .i64 k] w fun e w' => e = .returned (.tuple #[.int .i32 0, .int .i64 0]) ∧ Below w.heap.size w w' := by
  have hb := get_bt s
  have q0 := bt_nonneg s k
  have r0 := bt_le s k
  have q1 := bt_nonneg s (k + 1)
  have r1 := bt_le s (k + 1)
  have q2 := bt_nonneg s (k + 2)
  have r2 := bt_le s (k + 2)
  have c0 : ¬ bt s k ≥ 240 := by omega
  have c1 : bt s k ≥ 224 := by omega
  have hI' : (k : Int) + 3 ≤ s.size := by omega
  have hz0 : 0 ≤ Z := by omega
  unfold isScal at hn
  clear h0 h1
  by_cases hm : Z < 57344
  · have g0 : decide (Z ≥ 0) = true := decide_eq_true (by omega)
    have g1 : decide (Z < 55296) = false := decide_eq_false (by omega)
    have g2 : decide (Z ≥ 57344) = false := decide_eq_false (by omega)
    clear hn hm
    go_enter Tryz.func134, Tryz.ntmps134
    go_wp2
    go_rounds 4
    go_quiet (fail)
    go_wp2
    go_ret2
    exact ⟨rfl, below_drewN (Below.refl _ _) _⟩
  · exfalso; omega

set_option maxHeartbeats 1000000 in
set_option maxRecDepth 100000 in
theorem rf3_same (s : ByteArray) (k : Nat) (w : World) (hs : s.size ≤ 140737488351232) (hk : k < s.size) (h0 : 224 ≤ bt s k) (h1 : bt s k < 240) (hI : k + 3 ≤ s.size) (R : Nat) (hr : scal R) (Z : Int) (hZ : Z = R) (hz : ((bt s k - 224) * 64 + bt s (k + 1) % 64) * 64 + bt s (k + 2) % 64 = Z) (hX : s.extract k (k + 3) = ⟨(enc R).toArray⟩) :
    Calls Tryz.prog 134 #[.string s, .int .i64 k] w fun e w' => e = .returned (.tuple #[.int .i32 Z, .int .i64 3]) ∧ Below w.heap.size w w' := by
  have hb := get_bt s
  have q0 := bt_nonneg s k
  have r0 := bt_le s k
  have q1 := bt_nonneg s (k + 1)
  have r1 := bt_le s (k + 1)
  have q2 := bt_nonneg s (k + 2)
  have r2 := bt_le s (k + 2)
  have c0 : ¬ bt s k ≥ 240 := by omega
  have c1 : bt s k ≥ 224 := by omega
  have hI' : (k : Int) + 3 ≤ s.size := by omega
  obtain ⟨E, hE⟩ : ∃ E : ByteArray, ⟨(enc R).toArray⟩ = E := ⟨_, rfl⟩
  have henc := fun W => ref_encode R hr W
  rw [← hZ] at henc
  rw [hE] at hX henc
  have hz0 : (0 : Int) ≤ Z := by omega
  clear h0 h1 hE
  unfold scal at hr
  by_cases hm : R < 55296
  · have g0 : decide (Z ≥ 0) = true := decide_eq_true (by omega)
    have g1 : decide (Z < 55296) = true := decide_eq_true (by omega)
    clear hr hm hZ
    go_enter Tryz.func134, Tryz.ntmps134
    go_wp2
    go_rounds 4
    have hkI : (0 : Int) ≤ k ∧ (k : Int) ≤ k + 3 := by omega
    clear hb q0 r0 q1 r1 q2 r2 c0 c1 hz hz0
    have cE : ∀ d os, Calls Tryz.prog 150 #[.int .i32 Z] (grow (redrawn w d) os) fun e w'' => e = .returned (.string E) ∧ ∃ p : Regrown, w'' = grow (redrawn w p.d) p.os := fun d os => Calls.regrown_of (henc _)
    clear henc
    refine wp_region_quiet_below (by kernel_rfl) (by kernel_rfl) ?_
    repeat (first | go_big_quiet_step (exact cE _ _) | quiet_step (exact cE _ _))
    refine wpQuiet_nil ?_
    intro _ hw'
    obtain ⟨⟨dq, osq⟩, hw''⟩ := hw'
    subst hw''
    go_wp2
    go_ret2
    exact ⟨rfl, below_regrown w dq osq⟩
  · have g0 : decide (Z ≥ 0) = true := decide_eq_true (by omega)
    have g1 : decide (Z < 55296) = false := decide_eq_false (by omega)
    have g2 : decide (Z ≥ 57344) = true := decide_eq_true (by omega)
    have g3 : decide (Z ≤ 1114111) = true := decide_eq_true (by omega)
    clear hr hm hZ
    go_enter Tryz.func134, Tryz.ntmps134
    go_wp2
    go_rounds 4
    have hkI : (0 : Int) ≤ k ∧ (k : Int) ≤ k + 3 := by omega
    clear hb q0 r0 q1 r1 q2 r2 c0 c1 hz hz0
    have cE : ∀ d os, Calls Tryz.prog 150 #[.int .i32 Z] (grow (redrawn w d) os) fun e w'' => e = .returned (.string E) ∧ ∃ p : Regrown, w'' = grow (redrawn w p.d) p.os := fun d os => Calls.regrown_of (henc _)
    clear henc
    refine wp_region_quiet_below (by kernel_rfl) (by kernel_rfl) ?_
    repeat (first | go_big_quiet_step (exact cE _ _) | quiet_step (exact cE _ _))
    refine wpQuiet_nil ?_
    intro _ hw'
    obtain ⟨⟨dq, osq⟩, hw''⟩ := hw'
    subst hw''
    go_wp2
    go_ret2
    exact ⟨rfl, below_regrown w dq osq⟩

set_option maxHeartbeats 1000000 in
set_option maxRecDepth 100000 in
theorem rf3_other (s : ByteArray) (k : Nat) (w : World) (hs : s.size ≤ 140737488351232) (hk : k < s.size) (h0 : 224 ≤ bt s k) (h1 : bt s k < 240) (hI : k + 3 ≤ s.size) (R : Nat) (hr : scal R) (Z : Int) (hZ : Z = R) (hz : ((bt s k - 224) * 64 + bt s (k + 1) % 64) * 64 + bt s (k + 2) % 64 = Z) (hX : ¬ ⟨(enc R).toArray⟩ = s.extract k (k + 3)) :
    Calls Tryz.prog 134 #[.string s, .int .i64 k] w fun e w' => e = .returned (.tuple #[.int .i32 0, .int .i64 0]) ∧ Below w.heap.size w w' := by
  have hb := get_bt s
  have q0 := bt_nonneg s k
  have r0 := bt_le s k
  have q1 := bt_nonneg s (k + 1)
  have r1 := bt_le s (k + 1)
  have q2 := bt_nonneg s (k + 2)
  have r2 := bt_le s (k + 2)
  have c0 : ¬ bt s k ≥ 240 := by omega
  have c1 : bt s k ≥ 224 := by omega
  have hI' : (k : Int) + 3 ≤ s.size := by omega
  obtain ⟨E, hE⟩ : ∃ E : ByteArray, ⟨(enc R).toArray⟩ = E := ⟨_, rfl⟩
  have henc := fun W => ref_encode R hr W
  rw [← hZ] at henc
  rw [hE] at hX henc
  have hXl := ne_list hX
  have hz0 : (0 : Int) ≤ Z := by omega
  clear h0 h1 hE
  unfold scal at hr
  by_cases hm : R < 55296
  · have g0 : decide (Z ≥ 0) = true := decide_eq_true (by omega)
    have g1 : decide (Z < 55296) = true := decide_eq_true (by omega)
    clear hr hm hZ
    go_enter Tryz.func134, Tryz.ntmps134
    go_wp2
    go_rounds 4
    have hkI : (0 : Int) ≤ k ∧ (k : Int) ≤ k + 3 := by omega
    clear hb q0 r0 q1 r1 q2 r2 c0 c1 hz hz0
    have cE : ∀ d os, Calls Tryz.prog 150 #[.int .i32 Z] (grow (redrawn w d) os) fun e w'' => e = .returned (.string E) ∧ ∃ p : Regrown, w'' = grow (redrawn w p.d) p.os := fun d os => Calls.regrown_of (henc _)
    clear henc
    refine wp_region_quiet_below (by kernel_rfl) (by kernel_rfl) ?_
    repeat (first | go_big_quiet_step (exact cE _ _) | quiet_step (exact cE _ _))
    refine wpQuiet_nil ?_
    intro _ hw'
    obtain ⟨⟨dq, osq⟩, hw''⟩ := hw'
    subst hw''
    go_wp2
    go_ret2
    exact ⟨rfl, below_regrown w dq osq⟩
  · have g0 : decide (Z ≥ 0) = true := decide_eq_true (by omega)
    have g1 : decide (Z < 55296) = false := decide_eq_false (by omega)
    have g2 : decide (Z ≥ 57344) = true := decide_eq_true (by omega)
    have g3 : decide (Z ≤ 1114111) = true := decide_eq_true (by omega)
    clear hr hm hZ
    go_enter Tryz.func134, Tryz.ntmps134
    go_wp2
    go_rounds 4
    have hkI : (0 : Int) ≤ k ∧ (k : Int) ≤ k + 3 := by omega
    clear hb q0 r0 q1 r1 q2 r2 c0 c1 hz hz0
    have cE : ∀ d os, Calls Tryz.prog 150 #[.int .i32 Z] (grow (redrawn w d) os) fun e w'' => e = .returned (.string E) ∧ ∃ p : Regrown, w'' = grow (redrawn w p.d) p.os := fun d os => Calls.regrown_of (henc _)
    clear henc
    refine wp_region_quiet_below (by kernel_rfl) (by kernel_rfl) ?_
    repeat (first | go_big_quiet_step (exact cE _ _) | quiet_step (exact cE _ _))
    refine wpQuiet_nil ?_
    intro _ hw'
    obtain ⟨⟨dq, osq⟩, hw''⟩ := hw'
    subst hw''
    go_wp2
    go_ret2
    exact ⟨rfl, below_regrown w dq osq⟩

theorem rf4_out (s : ByteArray) (k : Nat) (w : World) (hs : s.size ≤ 140737488351232) (hk : k < s.size) (h0 : 240 ≤ bt s k) (ho : s.size < k + 4) :
    Calls Tryz.prog 134 #[.string s, .int .i64 k] w fun e w' => e = .returned (.tuple #[.int .i32 0, .int .i64 0]) ∧ Below w.heap.size w w' := by
  have hb := get_bt s
  have q0 := bt_nonneg s k
  have r0 := bt_le s k
  have c0 : bt s k ≥ 240 := by omega
  have hI : ¬ (k : Int) + 4 ≤ s.size := by omega
  clear h0
  go_enter Tryz.func134, Tryz.ntmps134
  go_wp2
  go_ret2
  exact ⟨rfl, Below.refl _ _⟩

set_option maxHeartbeats 1000000 in
set_option maxRecDepth 100000 in
theorem rf4_non (s : ByteArray) (k : Nat) (w : World) (hs : s.size ≤ 140737488351232) (hk : k < s.size) (h0 : 240 ≤ bt s k) (hI : k + 4 ≤ s.size) (Z : Int) (hz : (((bt s k - 240) * 64 + bt s (k + 1) % 64) * 64 + bt s (k + 2) % 64) * 64 + bt s (k + 3) % 64 = Z) (hn : ¬ isScal Z) :
    Calls Tryz.prog 134 #[.string s, .int .i64 k] w fun e w' => e = .returned (.tuple #[.int .i32 0, .int .i64 0]) ∧ Below w.heap.size w w' := by
  have hb := get_bt s
  have q0 := bt_nonneg s k
  have r0 := bt_le s k
  have q1 := bt_nonneg s (k + 1)
  have r1 := bt_le s (k + 1)
  have q2 := bt_nonneg s (k + 2)
  have r2 := bt_le s (k + 2)
  have q3 := bt_nonneg s (k + 3)
  have r3 := bt_le s (k + 3)
  have c0 : bt s k ≥ 240 := by omega
  have hI' : (k : Int) + 4 ≤ s.size := by omega
  have hz0 : 0 ≤ Z := by omega
  unfold isScal at hn
  clear h0
  by_cases hm : Z < 57344
  · have g0 : decide (Z ≥ 0) = true := decide_eq_true (by omega)
    have g1 : decide (Z < 55296) = false := decide_eq_false (by omega)
    have g2 : decide (Z ≥ 57344) = false := decide_eq_false (by omega)
    clear hn hm
    go_enter Tryz.func134, Tryz.ntmps134
    go_wp2
    go_rounds 4
    go_quiet (fail)
    go_wp2
    go_ret2
    exact ⟨rfl, below_drewN (Below.refl _ _) _⟩
  · have g0 : decide (Z ≥ 0) = true := decide_eq_true (by omega)
    have g1 : decide (Z < 55296) = false := decide_eq_false (by omega)
    have g2 : decide (Z ≥ 57344) = true := decide_eq_true (by omega)
    have g3 : decide (Z ≤ 1114111) = false := decide_eq_false (by omega)
    clear hn hm
    go_enter Tryz.func134, Tryz.ntmps134
    go_wp2
    go_rounds 4
    go_quiet (fail)
    go_wp2
    go_ret2
    exact ⟨rfl, below_drewN (Below.refl _ _) _⟩

set_option maxHeartbeats 1000000 in
set_option maxRecDepth 100000 in
theorem rf4_same (s : ByteArray) (k : Nat) (w : World) (hs : s.size ≤ 140737488351232) (hk : k < s.size) (h0 : 240 ≤ bt s k) (hI : k + 4 ≤ s.size) (R : Nat) (hr : scal R) (Z : Int) (hZ : Z = R) (hz : (((bt s k - 240) * 64 + bt s (k + 1) % 64) * 64 + bt s (k + 2) % 64) * 64 + bt s (k + 3) % 64 = Z) (hX : s.extract k (k + 4) = ⟨(enc R).toArray⟩) :
    Calls Tryz.prog 134 #[.string s, .int .i64 k] w fun e w' => e = .returned (.tuple #[.int .i32 Z, .int .i64 4]) ∧ Below w.heap.size w w' := by
  have hb := get_bt s
  have q0 := bt_nonneg s k
  have r0 := bt_le s k
  have q1 := bt_nonneg s (k + 1)
  have r1 := bt_le s (k + 1)
  have q2 := bt_nonneg s (k + 2)
  have r2 := bt_le s (k + 2)
  have q3 := bt_nonneg s (k + 3)
  have r3 := bt_le s (k + 3)
  have c0 : bt s k ≥ 240 := by omega
  have hI' : (k : Int) + 4 ≤ s.size := by omega
  obtain ⟨E, hE⟩ : ∃ E : ByteArray, ⟨(enc R).toArray⟩ = E := ⟨_, rfl⟩
  have henc := fun W => ref_encode R hr W
  rw [← hZ] at henc
  rw [hE] at hX henc
  have hz0 : (0 : Int) ≤ Z := by omega
  clear h0 hE
  unfold scal at hr
  by_cases hm : R < 55296
  · have g0 : decide (Z ≥ 0) = true := decide_eq_true (by omega)
    have g1 : decide (Z < 55296) = true := decide_eq_true (by omega)
    clear hr hm hZ
    go_enter Tryz.func134, Tryz.ntmps134
    go_wp2
    go_rounds 4
    have hkI : (0 : Int) ≤ k ∧ (k : Int) ≤ k + 4 := by omega
    clear hb q0 r0 q1 r1 q2 r2 q3 r3 c0 hz hz0
    have cE : ∀ d os, Calls Tryz.prog 150 #[.int .i32 Z] (grow (redrawn w d) os) fun e w'' => e = .returned (.string E) ∧ ∃ p : Regrown, w'' = grow (redrawn w p.d) p.os := fun d os => Calls.regrown_of (henc _)
    clear henc
    refine wp_region_quiet_below (by kernel_rfl) (by kernel_rfl) ?_
    repeat (first | go_big_quiet_step (exact cE _ _) | quiet_step (exact cE _ _))
    refine wpQuiet_nil ?_
    intro _ hw'
    obtain ⟨⟨dq, osq⟩, hw''⟩ := hw'
    subst hw''
    go_wp2
    go_ret2
    exact ⟨rfl, below_regrown w dq osq⟩
  · have g0 : decide (Z ≥ 0) = true := decide_eq_true (by omega)
    have g1 : decide (Z < 55296) = false := decide_eq_false (by omega)
    have g2 : decide (Z ≥ 57344) = true := decide_eq_true (by omega)
    have g3 : decide (Z ≤ 1114111) = true := decide_eq_true (by omega)
    clear hr hm hZ
    go_enter Tryz.func134, Tryz.ntmps134
    go_wp2
    go_rounds 4
    have hkI : (0 : Int) ≤ k ∧ (k : Int) ≤ k + 4 := by omega
    clear hb q0 r0 q1 r1 q2 r2 q3 r3 c0 hz hz0
    have cE : ∀ d os, Calls Tryz.prog 150 #[.int .i32 Z] (grow (redrawn w d) os) fun e w'' => e = .returned (.string E) ∧ ∃ p : Regrown, w'' = grow (redrawn w p.d) p.os := fun d os => Calls.regrown_of (henc _)
    clear henc
    refine wp_region_quiet_below (by kernel_rfl) (by kernel_rfl) ?_
    repeat (first | go_big_quiet_step (exact cE _ _) | quiet_step (exact cE _ _))
    refine wpQuiet_nil ?_
    intro _ hw'
    obtain ⟨⟨dq, osq⟩, hw''⟩ := hw'
    subst hw''
    go_wp2
    go_ret2
    exact ⟨rfl, below_regrown w dq osq⟩

set_option maxHeartbeats 1000000 in
set_option maxRecDepth 100000 in
theorem rf4_other (s : ByteArray) (k : Nat) (w : World) (hs : s.size ≤ 140737488351232) (hk : k < s.size) (h0 : 240 ≤ bt s k) (hI : k + 4 ≤ s.size) (R : Nat) (hr : scal R) (Z : Int) (hZ : Z = R) (hz : (((bt s k - 240) * 64 + bt s (k + 1) % 64) * 64 + bt s (k + 2) % 64) * 64 + bt s (k + 3) % 64 = Z) (hX : ¬ ⟨(enc R).toArray⟩ = s.extract k (k + 4)) :
    Calls Tryz.prog 134 #[.string s, .int .i64 k] w fun e w' => e = .returned (.tuple #[.int .i32 0, .int .i64 0]) ∧ Below w.heap.size w w' := by
  have hb := get_bt s
  have q0 := bt_nonneg s k
  have r0 := bt_le s k
  have q1 := bt_nonneg s (k + 1)
  have r1 := bt_le s (k + 1)
  have q2 := bt_nonneg s (k + 2)
  have r2 := bt_le s (k + 2)
  have q3 := bt_nonneg s (k + 3)
  have r3 := bt_le s (k + 3)
  have c0 : bt s k ≥ 240 := by omega
  have hI' : (k : Int) + 4 ≤ s.size := by omega
  obtain ⟨E, hE⟩ : ∃ E : ByteArray, ⟨(enc R).toArray⟩ = E := ⟨_, rfl⟩
  have henc := fun W => ref_encode R hr W
  rw [← hZ] at henc
  rw [hE] at hX henc
  have hXl := ne_list hX
  have hz0 : (0 : Int) ≤ Z := by omega
  clear h0 hE
  unfold scal at hr
  by_cases hm : R < 55296
  · have g0 : decide (Z ≥ 0) = true := decide_eq_true (by omega)
    have g1 : decide (Z < 55296) = true := decide_eq_true (by omega)
    clear hr hm hZ
    go_enter Tryz.func134, Tryz.ntmps134
    go_wp2
    go_rounds 4
    have hkI : (0 : Int) ≤ k ∧ (k : Int) ≤ k + 4 := by omega
    clear hb q0 r0 q1 r1 q2 r2 q3 r3 c0 hz hz0
    have cE : ∀ d os, Calls Tryz.prog 150 #[.int .i32 Z] (grow (redrawn w d) os) fun e w'' => e = .returned (.string E) ∧ ∃ p : Regrown, w'' = grow (redrawn w p.d) p.os := fun d os => Calls.regrown_of (henc _)
    clear henc
    refine wp_region_quiet_below (by kernel_rfl) (by kernel_rfl) ?_
    repeat (first | go_big_quiet_step (exact cE _ _) | quiet_step (exact cE _ _))
    refine wpQuiet_nil ?_
    intro _ hw'
    obtain ⟨⟨dq, osq⟩, hw''⟩ := hw'
    subst hw''
    go_wp2
    go_ret2
    exact ⟨rfl, below_regrown w dq osq⟩
  · have g0 : decide (Z ≥ 0) = true := decide_eq_true (by omega)
    have g1 : decide (Z < 55296) = false := decide_eq_false (by omega)
    have g2 : decide (Z ≥ 57344) = true := decide_eq_true (by omega)
    have g3 : decide (Z ≤ 1114111) = true := decide_eq_true (by omega)
    clear hr hm hZ
    go_enter Tryz.func134, Tryz.ntmps134
    go_wp2
    go_rounds 4
    have hkI : (0 : Int) ≤ k ∧ (k : Int) ≤ k + 4 := by omega
    clear hb q0 r0 q1 r1 q2 r2 q3 r3 c0 hz hz0
    have cE : ∀ d os, Calls Tryz.prog 150 #[.int .i32 Z] (grow (redrawn w d) os) fun e w'' => e = .returned (.string E) ∧ ∃ p : Regrown, w'' = grow (redrawn w p.d) p.os := fun d os => Calls.regrown_of (henc _)
    clear henc
    refine wp_region_quiet_below (by kernel_rfl) (by kernel_rfl) ?_
    repeat (first | go_big_quiet_step (exact cE _ _) | quiet_step (exact cE _ _))
    refine wpQuiet_nil ?_
    intro _ hw'
    obtain ⟨⟨dq, osq⟩, hw''⟩ := hw'
    subst hw''
    go_wp2
    go_ret2
    exact ⟨rfl, below_regrown w dq osq⟩

end Go.Proofs.YthfpmhnnjjikcabGreatDoor

/- What the reference's first and decode answer. -/
namespace Go.Proofs.YthfpmhnnjjikcabGreatDoor
open Go Go.RowKit Go.Lib Go.PlainAid
set_option linter.unusedVariables false
theorem bt_at (s : ByteArray) (k j : Nat) (x : UInt8) (h : (s.data.toList.drop k)[j]? = some x) : bt s (k + j) = (x.toNat : Int) ∧ k + j < s.size := by
  rw [List.getElem?_drop] at h
  obtain ⟨h1, h2⟩ := List.getElem?_eq_some_iff.1 h
  rw [size_toList] at h1
  refine ⟨?_, h1⟩
  unfold bt
  rw [dif_pos h1, ← h2]
  rfl

theorem bt_enc (s : ByteArray) (k j : Nat) (z : Int) (l : List UInt8) (hz0 : 0 ≤ z) (hz1 : z < 256) (hd : s.data.toList.drop k = l) (h : l[j]? = some z.toNat.toUInt8) : bt s (k + j) = z ∧ k + j < s.size := by
  obtain ⟨h1, h2⟩ := bt_at s k j _ (by rw [hd]; exact h)
  rw [u8_nat _ hz0 hz1] at h1
  exact ⟨by omega, h2⟩

theorem ref_first_ok (s : ByteArray) (k : Nat) (w : World) (hs : s.size ≤ 140737488351232) (r : Nat) (h : scal r) (t : List UInt8) (hd : s.data.toList.drop k = enc r ++ t) :
    Calls Tryz.prog 134 #[.string s, .int .i64 k] w fun e w' => e = .returned (.tuple #[.int .i32 r, .int .i64 ((enc r).length : Nat)]) ∧ Below w.heap.size w w' := by
  have hX : s.extract k (k + (enc r).length) = ⟨(enc r).toArray⟩ := extract_of s (enc r) k (k + (enc r).length) (by rw [hd, Nat.add_sub_cancel_left, List.take_left])
  have hh := h
  unfold scal at hh
  by_cases h1 : r < 128
  · have e := enc_one h1
    rw [e] at hd
    obtain ⟨a0, s0⟩ := bt_enc s k 0 _ _ (by omega) (by omega) hd rfl
    rw [Nat.add_zero] at a0 s0
    have hl : (enc r).length = 1 := by rw [e]; rfl
    rw [hl] at hX ⊢
    exact rf1_same s k w hs s0 (by omega) s0 r h r rfl (by omega) hX
  by_cases h2 : r < 2048
  · have e := enc_two (by omega) h2
    rw [e] at hd
    obtain ⟨a0, s0⟩ := bt_enc s k 0 _ _ (by omega) (by omega) hd rfl
    obtain ⟨a1, s1⟩ := bt_enc s k 1 _ _ (by omega) (by omega) hd rfl
    rw [Nat.add_zero] at a0 s0
    have hl : (enc r).length = 2 := by rw [e]; rfl
    rw [hl] at hX ⊢
    exact rf2_same s k w hs s0 (by omega) (by omega) s1 r h r rfl (by omega) hX
  by_cases h3 : r < 65536
  · have e := enc_three (by omega) h3 h
    rw [e] at hd
    obtain ⟨a0, s0⟩ := bt_enc s k 0 _ _ (by omega) (by omega) hd rfl
    obtain ⟨a1, s1⟩ := bt_enc s k 1 _ _ (by omega) (by omega) hd rfl
    obtain ⟨a2, s2⟩ := bt_enc s k 2 _ _ (by omega) (by omega) hd rfl
    rw [Nat.add_zero] at a0 s0
    have hl : (enc r).length = 3 := by rw [e]; rfl
    rw [hl] at hX ⊢
    exact rf3_same s k w hs s0 (by omega) (by omega) s2 r h r rfl (by omega) hX
  · have e := enc_four (by omega) (by omega : r ≤ 1114111)
    rw [e] at hd
    obtain ⟨a0, s0⟩ := bt_enc s k 0 _ _ (by omega) (by omega) hd rfl
    obtain ⟨a1, s1⟩ := bt_enc s k 1 _ _ (by omega) (by omega) hd rfl
    obtain ⟨a2, s2⟩ := bt_enc s k 2 _ _ (by omega) (by omega) hd rfl
    obtain ⟨a3, s3⟩ := bt_enc s k 3 _ _ (by omega) (by omega) hd rfl
    rw [Nat.add_zero] at a0 s0
    have hl : (enc r).length = 4 := by rw [e]; rfl
    rw [hl] at hX ⊢
    exact rf4_same s k w hs s0 (by omega) s3 r h r rfl (by omega) hX

theorem not_extract {s : ByteArray} {k n : Nat} {R : Nat} (hR : scal R) (hst : stuckL (s.data.toList.drop k)) : ¬ ⟨(enc R).toArray⟩ = s.extract k (k + n) := by
  intro e
  have e1 := congrArg (fun x : ByteArray => x.data.toList) e
  simp only [extract_data, Nat.add_sub_cancel_left] at e1
  have e2 : s.data.toList.drop k = enc R ++ (s.data.toList.drop k).drop n := by
    conv => lhs; rw [← List.take_append_drop n (s.data.toList.drop k)]
    rw [← e1]
  exact not_stuck_enc hR _ (e2 ▸ hst)

theorem ref_first_bad (s : ByteArray) (k : Nat) (w : World) (hs : s.size ≤ 140737488351232) (hk : k < s.size) (hst : stuckL (s.data.toList.drop k)) :
    Calls Tryz.prog 134 #[.string s, .int .i64 k] w fun e w' => e = .returned (.tuple #[.int .i32 0, .int .i64 0]) ∧ Below w.heap.size w w' := by
  have q0 := bt_nonneg s k
  have q1 := bt_nonneg s (k + 1)
  have q2 := bt_nonneg s (k + 2)
  have q3 := bt_nonneg s (k + 3)
  have go : ∀ Z : Int, isScal Z → ∃ R : Nat, scal R ∧ Z = R := fun Z hz => ⟨Z.toNat, by unfold isScal at hz; unfold scal; omega, by unfold isScal at hz; omega⟩
  by_cases h1 : bt s k < 192
  · by_cases hZ : isScal (bt s k)
    · obtain ⟨R, hR, e⟩ := go _ hZ
      exact rf1_other s k w hs hk h1 hk R hR _ e rfl (not_extract hR hst)
    · exact rf1_non s k w hs hk h1 hk _ rfl hZ
  by_cases h2 : bt s k < 224
  · by_cases ho : s.size < k + 2
    · exact rf2_out s k w hs hk (by omega) h2 ho
    by_cases hZ : isScal ((bt s k - 192) * 64 + bt s (k + 1) % 64)
    · obtain ⟨R, hR, e⟩ := go _ hZ
      exact rf2_other s k w hs hk (by omega) h2 (by omega) R hR _ e rfl (not_extract hR hst)
    · exact rf2_non s k w hs hk (by omega) h2 (by omega) _ rfl hZ
  by_cases h3 : bt s k < 240
  · by_cases ho : s.size < k + 3
    · exact rf3_out s k w hs hk (by omega) h3 ho
    by_cases hZ : isScal (((bt s k - 224) * 64 + bt s (k + 1) % 64) * 64 + bt s (k + 2) % 64)
    · obtain ⟨R, hR, e⟩ := go _ hZ
      exact rf3_other s k w hs hk (by omega) h3 (by omega) R hR _ e rfl (not_extract hR hst)
    · exact rf3_non s k w hs hk (by omega) h3 (by omega) _ rfl hZ
  · by_cases ho : s.size < k + 4
    · exact rf4_out s k w hs hk (by omega) ho
    by_cases hZ : isScal ((((bt s k - 240) * 64 + bt s (k + 1) % 64) * 64 + bt s (k + 2) % 64) * 64 + bt s (k + 3) % 64)
    · obtain ⟨R, hR, e⟩ := go _ hZ
      exact rf4_other s k w hs hk (by omega) (by omega) R hR _ e rfl (not_extract hR hst)
    · exact rf4_non s k w hs hk (by omega) (by omega) _ rfl hZ
end Go.Proofs.YthfpmhnnjjikcabGreatDoor

/- What the reference's decode, Breaks, List and Check answer. -/
namespace Go.Proofs.YthfpmhnnjjikcabGreatDoor
open Go Go.RowKit Go.Lib
set_option linter.unusedVariables false
set_option maxHeartbeats 1000000 in
set_option maxRecDepth 100000 in
theorem ref_decode (s : ByteArray) (w : World) (hs : s.size ≤ 35184372087808) :
    Calls Tryz.prog 107 #[.string s] w fun e w' => ∃ v, e = .returned (.tuple #[v, .int .i64 (brk s.data.toList)]) ∧ Own32 w.heap.size w' v (ints (scs s.data.toList)) ∧ (∃ g cap, v = .slice (some ⟨g, 0, none⟩) (scs s.data.toList).length cap) ∧ Below w.heap.size w w' := by
  obtain ⟨t, h1, h2, h3⟩ := text_cases s.data.toList
  have hbk : brk s.data.toList = (encs (scs s.data.toList)).length := rfl
  obtain ⟨rs, hrs⟩ : ∃ rs, scs s.data.toList = rs := ⟨_, rfl⟩
  obtain ⟨B, hB⟩ : ∃ B, brk s.data.toList = B := ⟨_, rfl⟩
  rw [hB, hrs] at hbk
  rw [hrs] at h1 h3 ⊢
  rw [hB]
  obtain ⟨n, hn⟩ : ∃ n, rs.length = n := ⟨_, rfl⟩
  have hpn : pos rs n = B := by rw [← hn, pos_all, hbk]
  have hsz : B + t.length = s.size := by
    have := congrArg List.length h3
    rw [List.length_append, size_toList] at this
    omega
  have hnB : n ≤ B := by
    have : ∀ rs : List Nat, (∀ r ∈ rs, scal r) → rs.length ≤ (encs rs).length := fun rs => by
      induction rs with
      | nil => intro _; exact Nat.le_refl _
      | cons x rs ih =>
        intro hx
        have := enc_pos (hx x (by simp))
        have := ih fun r hr => hx r (by simp [hr])
        simp only [encs, List.length_append, List.length_cons]
        omega
    have := this rs h1
    omega
  have hdrop : ∀ i, s.data.toList.drop (pos rs i) = encs (rs.drop i) ++ t := fun i => by
    rw [h3, List.drop_append_of_le_length (pos_le rs i), drop_pos]
  obtain ⟨i0, z0, hi, hz, hz1, hz2, hz3⟩ := info32
  have hZ : Hid (i0.zero = some z0 ∧ i0.size = 1 ∧ i0.bytes = 4 ∧ z0.cells.size = 1) := ⟨hz, hz1, hz2, hz3⟩
  have HD : Hid (∀ i, s.data.toList.drop (pos rs i) = encs (rs.drop i) ++ t) := hdrop
  have HP : Hid (pos rs n = B) := hpn
  have HN : Hid (rs.length = n) := hn
  have HS : Hid (B + t.length = s.size) := hsz
  have hBs : B ≤ s.size := by omega
  clear hz hz1 hz2 hz3 hdrop hpn hn hsz h3 hrs hB hbk
  go_enter Tryz.func107, Tryz.ntmps107
  go_wp2
  have hst : (w.alloc (.cells #[] 21)).ownsRow w.heap.size 21 1 (.slice (some ⟨w.heap.size, 0, none⟩) 0 0) 0 [] := World.ownsRow_made w #[] 0 (Nat.le_refl _) (Nat.zero_le _) rfl
  have hbi : Below w.heap.size w (w.alloc (.cells #[] 21)) := (Below.refl _ _).alloc (Nat.le_refl _) _
  obtain ⟨v0, hv0⟩ : ∃ v0 : Value, v0 = Value.slice (some ⟨w.heap.size, 0, none⟩) 0 0 := ⟨_, rfl⟩
  have HV0 : Hid (∃ g cap, v0 = .slice (some ⟨g, 0, none⟩) 0 cap) := ⟨_, _, hv0⟩
  rw [← hv0] at hst ⊢
  obtain ⟨wi, hwi⟩ : ∃ wi, wi = w.alloc (.cells #[] 21) := ⟨_, rfl⟩
  rw [← hwi] at hst hbi ⊢
  clear hv0 hwi
  go_loopw [4, 5] (fun v p wr => ∃ i q : Nat, i ≤ n ∧ p = .int .i64 q ∧ q = pos rs i ∧ wr.ownsRow w.heap.size 21 1 v i (cells32 (ints (rs.take i))) ∧ (∃ g cap, v = .slice (some ⟨g, 0, none⟩) i cap) ∧ Below w.heap.size w wr) (fun _ p _ => s.size - (RowKit.intOf p).toNat)
  case atStart => exact ⟨0, 0, Nat.zero_le _, rfl, rfl, hst, HV0.out, hbi⟩
  case round =>
    clear hst hbi
    obtain ⟨i, q, hin, rfl, hq, hown, hform, hbw⟩ := hrel
    have HF : Hid (∃ g cap, u4 = .slice (some ⟨g, 0, none⟩) i cap) := hform
    clear hform
    by_cases hlt : i < n
    · have hr := h1 _ (List.getElem_mem (show i < rs.length by rw [HN.out]; exact hlt))
      have hps := pos_succ rs i (by rw [HN.out]; exact hlt)
      have hpl := enc_pos hr
      have hle : pos rs (i + 1) ≤ s.size := by
        have := congrArg List.length (HD.out (i + 1))
        have h4 := pos_le rs (i + 1)
        have h5 := HP.out
        rw [← HN.out, pos_all] at h5
        omega
      have hd : s.data.toList.drop q = enc (rs[i]'(by rw [HN.out]; exact hlt)) ++ (encs (rs.drop (i + 1)) ++ t) := by
        rw [hq, HD.out i, List.drop_eq_getElem_cons (by rw [HN.out]; exact hlt), encs, List.append_assoc]
      have HT : Hid (cells32 (ints (rs.take (i + 1))) = cells32 (ints (rs.take i)) ++ [.int .i32 ((rs[i]'(by rw [HN.out]; exact hlt) : Nat) : Int)]) := by
        show _ = _
        rw [List.take_succ_eq_append_getElem (by rw [HN.out]; exact hlt)]
        simp only [cells32, ints, List.map_append, List.map_cons, List.map_nil]
      have c := fun W => ref_first_ok s q W (by omega) _ hr _ hd
      obtain ⟨R, hR⟩ : ∃ R, rs[i]'(by rw [HN.out]; exact hlt) = R := ⟨_, rfl⟩
      rw [hR] at hps hpl HT c
      obtain ⟨L, hL⟩ : ∃ L, (enc R).length = L := ⟨_, rfl⟩
      rw [hL] at hps hpl c
      rw [hps, ← hq] at hle
      have HQ : Hid (pos rs (i + 1) = q + L) := by show _ = _; rw [hps, hq]
      clear hd hps hR hL h1 hq hr
      go_wp2_with (first
        | (go_at_call 134; refine (c _).mono ?_; rintro e w2 ⟨rfl, hb2⟩; have hbw2 := hbw.trans (hb2.mono hbw.size); have hown3 : (w2.alloc (.cells #[.int .i32 R] 21)).ownsRow w.heap.size 21 1 _ i _ := owns_below (owns_below hown hb2) ((Below.refl _ _).alloc (Nat.le_refl _) _))
        | (at_builtin; refine wpList_append_own _ rfl _ _ 122 rfl w.heap.size 21 i0 z0 1 4 Tryz.underlying122 hi hZ.out.1 hZ.out.2.1 hZ.out.2.2.1 hZ.out.2.2.2 (by decide) _ i _ rfl hown3 ⟨w2.heap.size, 0, none⟩ 1 1 [.int .i32 R] rfl rfl (by intro j u hj; cases j with | zero => (simp at hj; subst hj; simp [Addr.add]) | succ j => simp at hj) (fun u hu => by rw [List.mem_singleton.1 hu]; rfl) (by unfold maxLen; omega) (by omega) (by simp; have := hbw2.size; omega) ?_; intro v' w3 hown4 hgr4 _))
      have hb3 : Below w.heap.size w w3 := (hbw2.alloc hbw2.size _).grown hgr4 (by have := hbw2.size; simp; omega) (fun k hk => (owns_block hown3 k hk).1)
      go_roundw
      case rel => exact ⟨i + 1, q + L, by omega, by go_num, HQ.out.symm, by rw [HT.out]; exact hown4, own_val hown4 (by omega), hb3⟩
      case measure => simp [RowKit.intOf]; omega
    · obtain rfl : i = n := by omega
      have hqB : q = B := by rw [hq, HP.out]
      have hall : rs.take i = rs := List.take_of_length_le (by rw [HN.out]; exact Nat.le_refl _)
      have HO : Hid (wr.ownsRow w.heap.size 21 1 u4 (ints rs).length (cells32 (ints rs))) := by
        show wr.ownsRow _ _ _ _ _ _
        rw [ints_length, HN.out]
        rw [hall] at hown
        exact hown
      subst hqB
      by_cases hend : q < s.size
      · have hst : stuckL (s.data.toList.drop q) := by
          have e0 : rs.drop i = [] := List.drop_eq_nil_of_le (by rw [HN.out]; exact Nat.le_refl _)
          have := HD.out i
          rw [← hq, e0] at this
          simp only [encs, List.nil_append] at this
          rw [this]
          exact h2
        have c := ref_first_bad s q wr (by omega) hend hst
        have hendI : (q : Int) < s.size := by omega
        clear hown hall hq h1 hst
        go_wp2_with (go_at_call 134; refine c.mono ?_; rintro e w2 ⟨rfl, hb2⟩)
        go_ret2
        exact ⟨_, rfl, owns_below HO.out hb2, by rw [HN.out]; exact HF.out, hbw.trans (hb2.mono hbw.size)⟩
      · have hendI : ¬ (q : Int) < s.size := by omega
        clear hown hall hq h1
        go_wp2
        go_ret2
        exact ⟨_, rfl, HO.out, by rw [HN.out]; exact HF.out, hbw⟩

theorem ref_breaks (s : ByteArray) (w : World) (hs : s.size ≤ 35184372087808) :
    Calls Tryz.prog 156 #[.string s] w fun e w' => e = .returned (.int .i64 (brk s.data.toList)) ∧ Below w.heap.size w w' := by
  have c := ref_decode s w hs
  go_enter Tryz.func156, Tryz.ntmps156
  go_wp2_with (go_at_call 107; refine c.mono ?_; rintro e w2 ⟨v, rfl, _, _, hb2⟩)
  go_ret
  exact ⟨rfl, hb2⟩
end Go.Proofs.YthfpmhnnjjikcabGreatDoor

/- What the reference of layer 2 answers: text, Check, Compare. -/
namespace Go.Proofs.YthfpmhnnjjikcabGreatDoor
open Go Go.RowKit Go.Lib
set_option linter.unusedVariables false
theorem ref_utf8 (s : ByteArray) (w : World) (hs : s.size ≤ 35184372087808) (b : Bool) (hb : decide (brk s.data.toList = s.size) = b) :
    Calls Tryz.prog 139 #[.string s] w fun e w' => e = .returned (.bool b) ∧ Below w.heap.size w w' := by
  have c := ref_breaks s w hs
  obtain ⟨B, hB⟩ : ∃ B, brk s.data.toList = B := ⟨_, rfl⟩
  rw [hB] at c hb
  have e : ((B : Int) == (s.size : Int)) = b := by
    rw [← hb, Bool.eq_iff_iff]; simp; omega
  clear hB hb
  go_enter Tryz.func139, Tryz.ntmps139
  go_wp2_with (go_at_call 156; refine c.mono ?_; rintro r w2 ⟨rfl, hb2⟩)
  go_ret
  exact ⟨rfl, hb2⟩

theorem ref_txt (t : ByteArray) (w : World) (hs : t.size ≤ 35184372087808) :
    Calls Tryz.prog 114 #[.string t] w fun e w' => e = .returned (.int .i64 (txtE t)) ∧ Below w.heap.size w w' := by
  rcases txtE_cases t with ⟨he, hv, hl⟩ | ⟨he, hv, hl⟩ | ⟨he, hv⟩
  all_goals rw [he]
  · have c := ref_utf8 t w hs true (by simpa using hv)
    have hl' : (t.size : Int) ≤ 1048576 := by omega
    clear hv he
    go_enter Tryz.func114, Tryz.ntmps114
    go_wp2_with (go_at_call 139; refine c.mono ?_; rintro r w2 ⟨rfl, hb2⟩)
    go_ret
    exact ⟨rfl, hb2⟩
  · have c := ref_utf8 t w hs true (by simpa using hv)
    have hl' : (1048576 : Int) < t.size := by omega
    clear hv he
    go_enter Tryz.func114, Tryz.ntmps114
    go_wp2_with (go_at_call 139; refine c.mono ?_; rintro r w2 ⟨rfl, hb2⟩)
    go_ret
    exact ⟨rfl, hb2⟩
  · have c := ref_utf8 t w hs false (by simpa using hv)
    clear hv he
    go_enter Tryz.func114, Tryz.ntmps114
    go_wp2_with (go_at_call 139; refine c.mono ?_; rintro r w2 ⟨rfl, hb2⟩)
    go_ret
    exact ⟨rfl, hb2⟩

theorem ref_chk (k n : Int) (t : ByteArray) (w : World) (hs : t.size ≤ 35184372087808) :
    Calls Tryz.prog 81 #[pl k n t] w fun e w' => e = .returned (.int .i64 (chk k n t)) ∧ Below w.heap.size w w' := by
  have b0 := (Below.refl w.heap.size w).alloc (Nat.le_refl _) (.cells #[.int .i64 k, .int .i64 n, .string t] 36)
  have cT := from_below b0 (ref_txt t _ hs)
  obtain ⟨E, hE⟩ : ∃ E, chk k n t = E := ⟨_, rfl⟩
  rw [hE]
  by_cases h3 : k = 3
  · subst h3
    by_cases hn : n = 0
    · subst hn
      rw [chk_text] at hE
      rw [hE] at cT
      clear hE
      go_enter Tryz.func81, Tryz.ntmps81
      go_wp2_with (go_at_call 114; refine cT.mono ?_; rintro r w2 ⟨rfl, hb2⟩)
      go_ret
      exact ⟨rfl, hb2⟩
    · have hd : (n == 0) = false := by simpa using hn
      have : E = 5 := by rw [← hE]; simp [chk, fitB, hn]
      subst this
      clear hE cT hn
      go_enter Tryz.func81, Tryz.ntmps81
      go_wp2
      go_ret
      exact ⟨rfl, b0⟩
  · have hT : fitB k n t = true → t = ⟨#[]⟩ := fun hf => by
      have hf2 := hf
      unfold fitB at hf2
      repeat' split at hf2
      all_goals first | (simp only [Bool.and_eq_true, emp_iff] at hf2; exact hf2.2) | exact emp_iff.1 hf2 | (exfalso; omega) | (exfalso; cases hf2)
    have hE2 : E = if fitB k n t then 0 else 5 := by
      rw [← hE, chk]
      by_cases hf : fitB k n t = true
      · rw [if_pos hf, if_pos hf, hT hf, txtE_nil]
      · rw [if_neg hf, if_neg hf]
    clear hE hT cT
    by_cases h0 : k = 0
    · subst h0
      by_cases hn : n = 0
      · subst hn
        cases hEm : t.toList.isEmpty <;>
        · simp [fitB, hEm] at hE2
          subst hE2
          go_enter Tryz.func81, Tryz.ntmps81
          go_wp2
          go_ret
          exact ⟨rfl, b0⟩
      · have hd : (n != 0) = true := by simpa using hn
        simp [fitB, hn] at hE2
        subst hE2
        clear hn
        go_enter Tryz.func81, Tryz.ntmps81
        go_wp2
        go_ret
        exact ⟨rfl, b0⟩
    by_cases h1 : k = 1
    · subst h1
      clear h0 h3
      by_cases hlo : n < 0
      · have a1 : n ≠ 0 := by omega
        have a2 : n ≠ 1 := by omega
        simp [fitB, a1, a2] at hE2
        subst hE2
        clear a1 a2
        go_enter Tryz.func81, Tryz.ntmps81
        go_wp2
        go_ret
        exact ⟨rfl, b0⟩
      by_cases hhi : 1 < n
      · have a1 : n ≠ 0 := by omega
        have a2 : n ≠ 1 := by omega
        simp [fitB, a1, a2] at hE2
        subst hE2
        clear a1 a2
        go_enter Tryz.func81, Tryz.ntmps81
        go_wp2
        go_ret
        exact ⟨rfl, b0⟩
      · have hn : n = 0 ∨ n = 1 := by omega
        clear hlo hhi
        rcases hn with rfl | rfl
        all_goals
          cases hEm : t.toList.isEmpty <;>
          · simp [fitB, hEm] at hE2
            subst hE2
            go_enter Tryz.func81, Tryz.ntmps81
            go_wp2
            go_ret
            exact ⟨rfl, b0⟩
    by_cases h2 : k = 2
    · subst h2
      clear h0 h1 h3
      cases hEm : t.toList.isEmpty <;>
      · simp [fitB, hEm] at hE2
        subst hE2
        go_enter Tryz.func81, Tryz.ntmps81
        go_wp2
        go_ret
        exact ⟨rfl, b0⟩
    · have d0 : (k == 0) = false := by simpa using h0
      have d1 : (k == 1) = false := by simpa using h1
      have d2 : (k == 2) = false := by simpa using h2
      have d3 : (k == 3) = false := by simpa using h3
      simp [fitB, h0, h1, h2, h3] at hE2
      subst hE2
      clear h0 h1 h2 h3
      go_enter Tryz.func81, Tryz.ntmps81
      go_wp2
      go_ret
      exact ⟨rfl, b0⟩

end Go.Proofs.YthfpmhnnjjikcabGreatDoor

/- utf8.ValidString at this program: whether a text breaks nowhere. -/
namespace Go.Proofs.YthfpmhnnjjikcabGreatDoor
open Go Go.RowKit Go.Lib Go.Shelf
set_option linter.unusedVariables false
def Tryz.lays196_ren : Go.Shelf.Ren := ⟨fun | 196 => 80 | 259 => 113 | n => n, fun | 0 => 0 | 3 => 3 | 4 => 4 | 5 => 5 | 9 => 9 | 12 => 12 | 46 => 78 | 53 => 205 | 119 => 175 | 138 => 177 | 139 => 178 | n => n, fun | 3 => 19 | 4 => 20 | n => n⟩
theorem Tryz.lays196 : Go.Proofs.Lays.n196 Tryz.prog Tryz.lays196_ren := {
  mixed := by kernel_rfl
  f196 := Tryz.func80.trans (congrArg some (by kernel_rfl))
  f259 := Tryz.func113.trans (congrArg some (by kernel_rfl))
  t0 := Tryz.underlying0
  a0 := Tryz.isAgg0
  z0 := Tryz.sizeOf0
  v0 := Tryz.zeroValue0
  t3 := Tryz.underlying3
  a3 := Tryz.isAgg3
  z3 := Tryz.sizeOf3
  v3 := Tryz.zeroValue3
  t4 := Tryz.underlying4
  a4 := Tryz.isAgg4
  z4 := Tryz.sizeOf4
  v4 := Tryz.zeroValue4
  t5 := Tryz.underlying5
  a5 := Tryz.isAgg5
  z5 := Tryz.sizeOf5
  v5 := Tryz.zeroValue5
  t9 := Tryz.underlying9
  a9 := Tryz.isAgg9
  z9 := Tryz.sizeOf9
  v9 := Tryz.zeroValue9
  t12 := Tryz.underlying12
  a12 := Tryz.isAgg12
  z12 := Tryz.sizeOf12
  v12 := Tryz.zeroValue12
  t46 := Tryz.underlying78
  a46 := Tryz.isAgg78
  z46 := Tryz.sizeOf78
  v46 := Tryz.zeroValue78
  t53 := Tryz.underlying205
  a53 := Tryz.isAgg205
  z53 := Tryz.sizeOf205
  v53 := Tryz.zeroValue205
  t119 := Tryz.underlying175
  a119 := Tryz.isAgg175
  z119 := Tryz.sizeOf175
  t138 := Tryz.underlying177
  a138 := Tryz.isAgg177
  z138 := Tryz.sizeOf177
  v138 := Tryz.zeroValue177
  t139 := Tryz.underlying178
  a139 := Tryz.isAgg178
  z139 := Tryz.sizeOf178
  v139 := Tryz.zeroValue178
  g3 := by kernel_rfl
  g4 := by kernel_rfl }

theorem validD_encs : ∀ (rs : List Nat) (t : List UInt8), (∀ r ∈ rs, scal r) → validD (encs rs ++ t) = validD t
  | [], t, _ => rfl
  | r :: rs, t, h => by
    have hr := h r (List.mem_cons_self ..)
    have hp := enc_pos hr
    rw [encs, List.append_assoc, validD_step _ (by intro e; have := congrArg List.length e; rw [List.length_append] at this; simp only [List.length_nil] at this; omega), dec_enc hr, if_neg (by
      rintro ⟨h1, h2⟩
      simp only at h1 h2
      rw [enc_len hr, h1] at h2
      simp at h2)]
    rw [List.drop_left]
    exact validD_encs rs t (fun x hx => h x (List.mem_cons_of_mem _ hx))
theorem validD_brk (s : ByteArray) : validD s.data.toList = decide (brk s.data.toList = s.size) := by
  obtain ⟨t, h1, h2, h3⟩ := text_cases s.data.toList
  have hb := brk_eq h1 h2
  rw [← h3] at hb
  have hlen : s.data.toList.length = s.size := size_toList s
  have hl := congrArg List.length h3
  rw [List.length_append, hlen] at hl
  rw [hb]
  conv => lhs; rw [h3, validD_encs _ _ h1]
  rcases h2 with rfl | h2
  · simp only [List.length_nil] at hl
    rw [decide_eq_true (by omega)]; rfl
  · have hne : t ≠ [] := by rintro rfl; revert h2; decide
    rw [validD_step t hne, if_pos ⟨by rw [h2], by rw [h2]⟩]
    have : 0 < t.length := List.length_pos_iff.2 hne
    rw [decide_eq_false (by omega)]
theorem valid_any {I : List Nat} {a : Nat → Addr} (s : ByteArray) (w : World) (hS : Std I a w) (hs : s.size ≤ 281474976710656) :
    Calls Tryz.prog 80 #[.string s] w fun e w' => e = .returned (.bool (decide (brk s.data.toList = s.size))) ∧ Below w.heap.size w w' := by
  have := Any.utf8_ValidString Tryz.lays196 s w (by omega) hS.tabs
  rw [validD_brk] at this
  exact this
end Go.Proofs.YthfpmhnnjjikcabGreatDoor

/- What the reference of layer 3 says of pairs and lists: its numbers are the code's. -/
namespace Go.Proofs.YthfpmhnnjjikcabGreatDoor
open Go Go.RowKit Go.Lib
set_option linter.unusedVariables false
def Tiny (L : List A2) : Prop := ∀ q ∈ L, q.1.size ≤ 1048576 ∧ q.2.2.2.size ≤ 1048576
theorem geq_run {P : Program} {t : TypeId} (x y : ByteArray) (b : Bool) (h : (!decide (kc x y < 0)) = b) (w : World) : (binOp .geq t (.string x) (.string y)).run P w = .ok (.bool b) w := by
  rw [← h, ← less_kc]
  simp [binOp, Op.stringOp]

set_option maxHeartbeats 1000000 in
theorem ref_pair {I : List Nat} {a : Nat → Addr} (q : A2) (w : World) (hS : Std I a w) (h1 : q.1.size ≤ 1048576) (h2 : q.2.2.2.size ≤ 1048576) :
    Calls Tryz.prog 115 #[atV q] w fun e w' => e = .returned (.int .i64 (pairE q)) ∧ Below w.heap.size w w' := by
  obtain ⟨k, x, n, t⟩ := q
  simp only at h1 h2
  have b0 := (Below.refl w.heap.size w).alloc (Nat.le_refl _) (.cells #[.string k, .int .i64 x, .int .i64 n, .string t] 45)
  by_cases hE : k.toList.isEmpty = true
  · have hz : k = ⟨#[]⟩ := emp_iff.1 hE
    subst hz
    rw [show pairE (⟨#[]⟩, x, n, t) = 6 by unfold pairE; rw [if_pos (Or.inl hE)]]
    clear hS hE
    go_enter Tryz.func115, Tryz.ntmps115
    go_wp2
    go_ret
    exact ⟨rfl, b0⟩
  · have hk : 0 < k.size := by
      rcases Nat.eq_zero_or_pos k.size with h | h
      · exact absurd (emp_iff.2 (ByteArray.ext (Array.eq_empty_of_size_eq_zero h))) hE
      · exact h
    have hkI : ¬ (k.size : Int) < 1 := by omega
    by_cases hL : 64 < k.size
    · rw [show pairE (k, x, n, t) = 6 by unfold pairE; rw [if_pos (Or.inr hL)]]
      have hLI : (64 : Int) < k.size := by omega
      clear hS hE
      go_enter Tryz.func115, Tryz.ntmps115
      go_wp2
      go_ret
      exact ⟨rfl, b0⟩
    · have hLI : ¬ (64 : Int) < k.size := by omega
      have hE2 : ¬ (k.toList.isEmpty = true ∨ 64 < k.size) := fun h => h.elim hE hL
      have cV := valid_any k _ (hS.below b0) (by omega)
      by_cases hB : brk k.data.toList = k.size
      · rw [show pairE (k, x, n, t) = chk x n t by unfold pairE; rw [if_neg hE2, if_neg (by simpa using hB)]]
        rw [decide_eq_true hB] at cV
        have c2 := fun W (hW : Below w.heap.size w W) => from_below hW (ref_chk x n t W (by omega))
        obtain ⟨E, hEE⟩ : ∃ E, chk x n t = E := ⟨_, rfl⟩
        rw [hEE] at c2 ⊢
        clear hS hE hB hEE hE2
        go_enter Tryz.func115, Tryz.ntmps115
        go_wp2_with (first
          | (go_at_call 80; refine cV.mono ?_; rintro e w1 ⟨rfl, b1⟩; have b := b0.trans (b1.mono b0.size); have d1 := b1.cell (p := ⟨w.heap.size, 1, none⟩) (by simp); have d2 := b1.cell (p := ⟨w.heap.size, 2, none⟩) (by simp); have d3 := b1.cell (p := ⟨w.heap.size, 3, none⟩) (by simp))
          | (go_at_call 81; refine (c2 _ b).mono ?_; rintro e w2 ⟨rfl, b2⟩))
        go_ret
        exact ⟨rfl, b2⟩
      · rw [show pairE (k, x, n, t) = 1 by unfold pairE; rw [if_neg hE2, if_pos hB]]
        rw [decide_eq_false hB] at cV
        clear hS hE hB hE2
        go_enter Tryz.func115, Tryz.ntmps115
        go_wp2_with (go_at_call 80; refine cV.mono ?_; rintro e w1 ⟨rfl, b1⟩)
        go_ret
        exact ⟨rfl, b0.trans (b1.mono b0.size)⟩

set_option maxHeartbeats 2000000 in
set_option maxRecDepth 100000 in
theorem ref_check {I : List Nat} {a : Nat → Addr} (v : Value) (L : List A2) (nulls : Bool) (w : World) (hS : Std I a w) (hv : RowA w v L)
    (hs : Tiny L) (hl : L.length ≤ 4611686018427387904) :
    Calls Tryz.prog 82 #[v, .bool nulls] w fun r w' => r = .returned (.int .i64 (listE nulls none L)) ∧ Below w.heap.size w w' := by
  obtain ⟨n, hn⟩ : ∃ n, L.length = n := ⟨_, rfl⟩
  obtain ⟨p, cap, rfl, hcap, hc⟩ := hv
  rw [hn] at hl hcap ⊢
  have HN : Hid (L.length = n) := hn
  have HC : Hid _ := hc
  have HS : Hid _ := hS
  have HZ : Hid _ := hs
  clear hc hS hs hn
  go_enter Tryz.func82, Tryz.ntmps82
  go_wp2
  go_loopw [10] (fun i wr => ∃ (k : Nat) (pv : Option ByteArray), k ≤ n ∧ i = .int .i64 k ∧ Below w.heap.size w wr ∧ Hid (listE nulls none L = listE nulls pv (L.drop k) ∧ (k = 0 → pv = none) ∧ ∀ j q, k = j + 1 → L[j]? = some q → pv = some q.1)) (fun i _ => n - (RowKit.intOf i).toNat)
  case atStart => exact ⟨0, none, Nat.zero_le _, rfl, Below.refl _ _, rfl, fun _ => rfl, fun j q h => by omega⟩
  case round =>
    obtain ⟨k, pv, hk, rfl, hbw, H⟩ := hrel
    by_cases hlt : k < n
    · have hltI : (k : Int) < n := by omega
      obtain ⟨q, hq⟩ : ∃ q, L[k]? = some q := ⟨_, List.getElem?_eq_getElem (by rw [HN.out]; exact hlt)⟩
      obtain ⟨b, off, rfl, hp⟩ := HC.out k q hq
      have hpw := hp.below hbw
      obtain ⟨c0, c1, c2, c3⟩ := hpw
      have hzs := HZ.out _ (List.mem_of_getElem? hq)
      have hd : L.drop k = q :: L.drop (k + 1) := by
        rw [List.drop_eq_getElem_cons (by rw [HN.out]; exact hlt)]
        rw [List.getElem?_eq_getElem (by rw [HN.out]; exact hlt)] at hq
        rw [Option.some.inj hq]
      obtain ⟨qk, qx, qn, qt⟩ := q
      simp only at c0 c1 c2 c3 hzs
      have hb1 : Below w.heap.size w (wr.alloc (.cells #[.string qk, .int .i64 qx, .int .i64 qn, .string qt] 45)) := hbw.alloc hbw.size _
      have cP := ref_pair (qk, qx, qn, qt) _ (HS.out.below hb1) hzs.1 hzs.2
      by_cases hE : pairE (qk, qx, qn, qt) = 0
      · rw [hE] at cP
        have hE1 : listE nulls none L = (if (!nulls && qx == 0) = true then 7 else if above pv qk = true then listE nulls (some qk) (L.drop (k + 1)) else 8) := by
          rw [H.out.1, hd, listE, if_pos hE]
        have HP : Hid ((k = 0 → pv = none) ∧ ∀ j q, k = j + 1 → L[j]? = some q → pv = some q.1) := H.out.2
        have HQ : Hid (L[k]? = some (qk, qx, qn, qt)) := hq
        have bp : ∀ W, Below (wr.alloc (.cells #[.string qk, .int .i64 qx, .int .i64 qn, .string qt] 45)).heap.size (wr.alloc (.cells #[.string qk, .int .i64 qx, .int .i64 qn, .string qt] 45)) W → PairAt W wr.heap.size 0 (qk, qx, qn, qt) := fun W hW => PairAt.below (w := wr.alloc (.cells #[.string qk, .int .i64 qx, .int .i64 qn, .string qt] 45)) ⟨by simp, by simp, by simp, by simp⟩ hW
        have HE1 : Hid _ := hE1
        clear hzs hq hd hE hE1 H hp
        by_cases hN : (!nulls && qx == 0) = true
        · have HR : Hid (listE nulls none L = 7) := by
            show _ = _
            rw [HE1.out, if_pos hN]
          simp only [Bool.and_eq_true, Bool.not_eq_true', beq_iff_eq] at hN
          obtain ⟨rfl, rfl⟩ := hN
          clear HE1 HP HQ
          go_wp2_with fail
          refine cP.mono ?_; rintro r w3 ⟨rfl, hb3⟩
          obtain ⟨e0, e1, e2, e3⟩ := bp _ hb3
          clear bp
          go_wp2
          go_ret
          rw [HR.out]
          exact ⟨rfl, hb1.trans (hb3.mono hb1.size)⟩
        · have HN2 : Hid (¬ (!nulls && qx == 0) = true) := hN
          have hcase : (qx == 0) = false ∨ ((qx == 0) = true ∧ nulls = true) := by
            cases hx : (qx == 0)
            · exact Or.inl rfl
            · cases hnl : nulls
              · rw [hx, hnl] at hN; exact absurd rfl hN
              · exact Or.inr ⟨rfl, rfl⟩
          clear hN
          rcases hcase with hx | ⟨hx, rfl⟩
          all_goals
            go_wp2_with fail
            refine cP.mono ?_; rintro r w3 ⟨rfl, hb3⟩
            obtain ⟨e0, e1, e2, e3⟩ := bp _ hb3
            have hb4 := hb1.trans (hb3.mono hb1.size)
            clear bp hb3 c0 c1 c2 c3
            go_wp2_with fail
            cases k with
            | zero =>
              have hg0 : decide ((0 : Int) < ((0 : Nat) : Int)) = false := by decide
              go_quiet (fail)
              go_wp2
              go_roundw
              case rel =>
                refine ⟨1, some qk, by omega, by go_num, by first | exact hb4 | exact below_drewN hb4 _, ?_, by omega, fun j q h1 h2 => ?_⟩
                · rw [HE1.out, if_neg HN2.out, if_pos (by rw [HP.out.1 rfl]; rfl)]
                · obtain rfl : j = 0 := by omega
                  rw [HQ.out] at h2
                  rw [← Option.some.inj h2]
              case measure => simp [RowKit.intOf]; omega
            | succ j =>
              obtain ⟨q', hq'⟩ : ∃ q', L[j]? = some q' := ⟨_, List.getElem?_eq_getElem (by rw [HN.out]; omega)⟩
              obtain ⟨b', off', hbo, hp'⟩ := HC.out j q' hq'
              simp only [Option.some.injEq, Addr.mk.injEq, and_true] at hbo
              obtain ⟨rfl, rfl⟩ := hbo
              have d0 := (hp'.below hb4).c0
              have hpv := HP.out.2 j q' rfl hq'
              have hg0 : (0 : Int) < ((j + 1 : Nat) : Int) := by omega
              have hg1 : (((j + 1 : Nat) : Int) - 1) = (j : Int) := by omega
              have hg2 : (j : Int) < n := by omega
              have hg3 : (0 : Int) ≤ j := by omega
              have hwr : IntKind.i64.wrap (j : Int) = (j : Int) := IntWalk.i64_in _ (by omega)
              obtain ⟨k', p'⟩ := q'
              simp only at d0 hpv
              by_cases hlt2 : kc k' qk < 0
              · have hless := geq_run (P := Tryz.prog) (t := 9) k' qk false (by simpa using hlt2)
                have HR : Hid (listE _ none L = listE _ (some qk) (L.drop (j + 1 + 1))) := HE1.out.trans (by rw [if_neg HN2.out, if_pos (by rw [hpv]; simpa [above] using hlt2)])
                have HP2 : Hid (∀ i q, j + 1 + 1 = i + 1 → L[i]? = some q → some qk = some q.1) := fun i q h1 h2 => by
                  obtain rfl : i = j + 1 := by omega
                  rw [HQ.out] at h2
                  rw [← Option.some.inj h2]
                clear hlt2 hpv hp' hq' HP HE1
                go_quiet (fail)
                go_wp2
                go_roundw
                case rel => exact ⟨j + 1 + 1, some qk, by omega, by go_num, by first | exact hb4 | exact below_drewN hb4 _, HR.out, fun h => by omega, HP2.out⟩
                case measure => simp [RowKit.intOf]; omega
              · have hless := geq_run (P := Tryz.prog) (t := 9) k' qk true (by simpa using hlt2)
                have HR : Hid (listE _ none L = 8) := HE1.out.trans (by rw [if_neg HN2.out, if_neg (by rw [hpv]; simpa [above] using hlt2)])
                clear hlt2 hpv hp' hq' HP HE1
                go_quiet (fail)
                go_wp2
                go_ret
                rw [HR.out]
                exact ⟨rfl, by first | exact hb4 | exact below_drewN hb4 _⟩
      · obtain ⟨e, he⟩ : ∃ e, pairE (qk, qx, qn, qt) = e + 1 := ⟨pairE (qk, qx, qn, qt) - 1, by omega⟩
        have HR : Hid (listE nulls none L = e + 1) := by
          show _ = _
          rw [H.out.1, hd, listE, if_neg hE, he]
        have hen : (((e + 1 : Nat) : Int) != 0) = true := by simp; omega
        rw [he] at cP
        clear hzs hq hd hE he H hp
        go_wp2_with fail
        refine cP.mono ?_; rintro r w3 ⟨rfl, hb3⟩
        go_wp2
        go_ret
        rw [HR.out]
        exact ⟨rfl, hb1.trans (hb3.mono hb1.size)⟩
    · have hltI : ¬ (k : Int) < n := by omega
      have HR : Hid (listE nulls none L = 0) := by
        show _ = _
        rw [H.out.1, List.drop_of_length_le (by rw [HN.out]; omega), listE]
      clear H
      go_wp2
      go_ret
      rw [HR.out]
      exact ⟨rfl, hbw⟩

end Go.Proofs.YthfpmhnnjjikcabGreatDoor

/- vellumhand.Attrs and Kept. -/
namespace Go.Proofs.YthfpmhnnjjikcabGreatDoor
open Go Go.RowKit Go.Lib
set_option linter.unusedVariables false
abbrev s2 : A2 := (⟨#[114, 111, 111, 109]⟩, 0, 0, ⟨#[]⟩)
end Go.Proofs.YthfpmhnnjjikcabGreatDoor

/- vellumhand.OverAttrs: a list of the call's own is written over and grown: what that changes. -/
namespace Go.Proofs.YthfpmhnnjjikcabGreatDoor
open Go Go.RowKit Go.Lib
set_option linter.unusedVariables false
theorem cell_atv {w : World} {g : Nat} {cur : Array Value} {e : TypeId} (h : w.heap[g]? = some (.cells cur e (0, 0))) (j : Nat) (hj : j < cur.size) : ∃ u, w.cell? ⟨g, j, none⟩ = some u :=
  ⟨cur[j], by simp [World.cell?, h, hj]⟩
theorem out_set4v {lo hi : Nat} {w W : World} (h : Out lo hi w W) {g : Nat} (h1 : lo ≤ g) (h2 : g < hi) (a b c d : Nat) (u0 u1 u2 u3 : Value) :
    Out lo hi w ((((W.setCell ⟨g, a, none⟩ u0).setCell ⟨g, b, none⟩ u1).setCell ⟨g, c, none⟩ u2).setCell ⟨g, d, none⟩ u3) :=
  (((h.setCell g a u0 h1 h2).setCell g b u1 h1 h2).setCell g c u2 h1 h2).setCell g d u3 h1 h2
theorem out_setCellsv {lo hi : Nat} {w : World} {g : Nat} (h1 : lo ≤ g) (h2 : g < hi) : ∀ (vs : List Value) (o : Nat) (W : World), Out lo hi w W → Out lo hi w (W.setCells g o vs)
  | [], _, _, h => h
  | v :: r, o, W, h => by
    rw [World.setCells]
    exact out_setCellsv h1 h2 r (o + 1) _ (h.setCell g o v h1 h2)
/-- A store into a block that came later. -/
theorem Out.setFar {lo hi : Nat} {w w' : World} (h : Out lo hi w w') (g j : Nat) (u : Value) (h1 : w.heap.size ≤ g) : Out lo hi w (w'.setCell ⟨g, j, none⟩ u) :=
  ⟨h.os, h.tape, h.output, by simpa using h.size, fun k hk ho => (Below.heap_setCell _ _ _ _ (by show k ≠ g; omega)).trans (h.block k hk ho), fun k cur e fz hc hk => by
    obtain ⟨c, h3, h4⟩ := h.shape k cur e fz hc hk
    have hkg : k ≠ g := by have := (Array.getElem?_eq_some_iff.1 hc).1; omega
    exact ⟨c, (Below.heap_setCell _ _ _ _ hkg).trans h3, h4⟩⟩
theorem out_setCellsFar {lo hi : Nat} {w : World} {g : Nat} (h1 : w.heap.size ≤ g) : ∀ (vs : List Value) (o : Nat) (W : World), Out lo hi w W → Out lo hi w (W.setCells g o vs)
  | [], _, _, h => h
  | v :: r, o, W, h => by
    rw [World.setCells]
    exact out_setCellsFar h1 r (o + 1) _ (h.setFar g o v h1)
theorem out_grownv {lo hi : Nat} {u w w' : World} (h : Out lo hi u w) (g : w.grownBy w' none) : Out lo hi u w' :=
  h.trans ⟨g.os, g.tape, g.output, g.size, fun k hk _ => g.block k hk (by simp), fun k cur e fz hc _ => ⟨cur, (g.block k (Array.getElem?_eq_some_iff.1 hc).1 (by simp)).trans hc, rfl⟩⟩

/-- A list that may be written, in blocks between two marks or in new ones: its shape alone. -/
def LiR (w : World) (L H B : Nat) (v : Value) (n : Nat) : Prop :=
  (v = .slice none 0 0 ∧ n = 0) ∨ ∃ (g cap : Nat) (cur : Array Value), v = .slice (some ⟨g, 0, none⟩) n cap ∧ ((L ≤ g ∧ g < H) ∨ B ≤ g) ∧ w.heap[g]? = some (.cells cur 45 (0, 0)) ∧ n ≤ cap ∧ cur.size = cap * 4
theorem LiR.val {w : World} {L H B n : Nat} {v : Value} (h : LiR w L H B v n) : ∃ p c, v = .slice p n c := by
  rcases h with ⟨h, h0⟩ | ⟨g, cap, cur, h, _⟩
  · exact ⟨none, 0, by rw [h, h0]⟩
  · exact ⟨_, _, h⟩
theorem LiR.below {w w' : World} {L H B n : Nat} {v : Value} (h : LiR w L H B v n) (b : Below w.heap.size w w') : LiR w' L H B v n := by
  rcases h with h | ⟨g, cap, cur, h1, h2, h3, h4⟩
  · exact Or.inl h
  · exact Or.inr ⟨g, cap, cur, h1, h2, (b.block g (Array.getElem?_eq_some_iff.1 h3).1).trans h3, h4⟩
/-- append(such a list, one pair). -/
theorem wpList_append_res {w u : World} {ops : Array Oper} {rest : List Oper} {o : Oper} {a : Act} {Q : Exit → Act → World → Prop} (hgd : o.guard = none) (s x : Operand)
    (ho : o.op = .call { callee := .builtin .append, args := #[s, x], argTypes := #[37, 37] })
    (L H : Nat) (v : Value) (n : Nat) (hs : a.eval s = v) (hv : LiR w L H u.heap.size v n) (hu : Out L H u w)
    (b c : Nat) (q : A2) (hx : a.eval x = .slice (some ⟨b, 0, none⟩) 1 c) (hM : PairAt w b 0 q) (h63 : n ≤ 2097152)
    (h : ∀ v' w', LiR w' L H u.heap.size v' (n + 1) → Out L H u w' → wpList Tryz.prog ops Q rest (a.put o.dst v') w') : wpList Tryz.prog ops Q (o :: rest) a w := by
  obtain ⟨i, z, hi, hz, hz1, hz2, hz3⟩ := infoAt
  have hnew : ∀ (j : Nat) (u : Value), (cellsA [q])[j]? = some u → w.cell? ((⟨b, 0, none⟩ : Addr).add j) = some u := fun j u hu => by
    obtain ⟨k, q', hq, hh⟩ := cellsA_inv [q] j u hu
    have hk : k = 0 := by rcases k with _ | k; rfl; simp at hq
    subst hk
    obtain rfl : q = q' := by simpa using hq
    obtain ⟨h0, h1, h2, h3⟩ := hM
    rw [Addr.add_lit]
    rcases hh with ⟨rfl, rfl⟩ | ⟨rfl, rfl⟩ | ⟨rfl, rfl⟩ | ⟨rfl, rfl⟩
    · exact h0
    · exact h1
    · exact h2
    · exact h3
  have fin : ∀ (v' : Value) (w' : World) (xs : List Value), w'.ownsRow w.heap.size 45 4 v' (n + 1) xs → Out L H u w' → wpList Tryz.prog ops Q rest (a.put o.dst v') w' := fun v' w' xs hw ho' => by
    refine h _ _ ?_ ho'
    rcases hw.2 with ⟨_, h0⟩ | ⟨g, cap, cur, h1, h2, h3, h4, h5, h6, _⟩
    · omega
    · exact Or.inr ⟨g, cap, cur, h1, Or.inr (Nat.le_trans hu.size h2), h3, h4, h6⟩
  rcases hv with ⟨rfl, rfl⟩ | ⟨g, cap, cur, rfl, h2, h4, h5, h6⟩
  · exact wpList_append_grows w hgd s x _ ho 45 i z 4 48 Tryz.underlying37 hi hz hz1 hz2 hz3 (by decide) none 0 0 [] hs (fun _ => ⟨rfl, rfl⟩) rfl (fun b hb => (by cases hb)) ⟨b, 0, none⟩ 1 c (cellsA [q]) hx rfl hnew (cellsA_one _) (by decide) (by unfold maxLen; omega) (by omega) (fun v' w' r1 r2 => fin v' w' _ r1 (out_grownv hu r2))
  · refine wpList_append_arg w hgd s x _ ho 45 i z 4 48 Tryz.underlying37 hi hz hz1 hz2 hz3 (by decide) g 0 n cap (cur.toList.take (n * 4)) hs (by rw [List.length_take, Array.length_toList, h6]; omega) (fun j u hu => ?_) ⟨b, 0, none⟩ 1 c (cellsA [q]) hx rfl hnew (cellsA_one _) (fun hr j hj => ?_) (by unfold maxLen; omega) (by omega) (fun hr => ?_) (fun hr v' w' r1 r2 => fin v' w' _ r1 (out_grownv hu r2))
    · have hj := (List.getElem?_eq_some_iff.1 hu).1
      rw [List.getElem?_take] at hu
      split at hu
      · rw [Nat.zero_add]
        simp only [World.cell?, h4]
        simpa using hu
      · cases hu
    · have hj' : j < 4 := by simpa [cellsA] using hj
      rw [Nat.zero_add]
      exact ⟨by obtain ⟨u, hu⟩ := cell_atv h4 (n * 4 + j) (by omega); rw [hu]; rfl, frozen_of_row w g _ cur _ h4⟩
    · obtain ⟨cur', hc', hs'⟩ := (out_setCellsv (Nat.le_refl g) (Nat.lt_succ_self g) (cellsA [q]) (0 + n * 4) w (Out.refl g (g + 1) w)).shape g cur _ _ h4 (Nat.lt_succ_self g)
      refine h _ _ (Or.inr ⟨g, cap, cur', rfl, h2, hc', hr, by rw [hs', h6]⟩) ?_
      rcases h2 with ⟨h2, h3⟩ | h2
      · exact out_setCellsv h2 h3 _ _ _ hu
      · exact out_setCellsFar h2 _ _ _ hu

abbrev qMore : A2 := (⟨#[109, 111, 114, 101]⟩, 0, 0, ⟨#[]⟩)

set_option maxHeartbeats 2000000 in
set_option maxRecDepth 100000 in
theorem overAttrs_any (v : Value) (n L H : Nat) (w : World) (hv : LiR w L H w.heap.size v n) (hl : n ≤ 1048576) :
    Calls Tryz.prog 15 #[v] w fun r w' => r = .returned (.tuple #[]) ∧ Out L H w w' := by
  obtain ⟨p, cap, rfl⟩ := hv.val
  have HV : Hid (∀ W, Out L H w W → LiR W L H w.heap.size (.slice p n cap) n) := fun W hW => by
    rcases hv with h | ⟨g, cap', cur, h1, h2, h3, h4, h5⟩
    · exact Or.inl h
    · have hg : g < w.heap.size := (Array.getElem?_eq_some_iff.1 h3).1
      obtain ⟨cur', h6, h7⟩ := hW.shape g cur _ _ h3 (by omega)
      exact Or.inr ⟨g, cap', cur', h1, h2, h6, h4, by rw [h7, h5]⟩
  have HP : Hid (0 < n → ∃ g, p = some ⟨g, 0, none⟩ ∧ L ≤ g ∧ g < H ∧ ∀ W, Out L H w W → ∀ i, i < n * 4 → (∃ u, W.cell? ⟨g, i, none⟩ = some u) ∧ W.frozen? ⟨g, i, none⟩ = false) := fun h0 => by
    rcases hv with ⟨_, h⟩ | ⟨g, cap', cur, h1, h2, h3, h4, h5⟩
    · omega
    · have hg : g < w.heap.size := (Array.getElem?_eq_some_iff.1 h3).1
      simp only [Value.slice.injEq] at h1
      obtain ⟨rfl, -, rfl⟩ := h1
      refine ⟨g, rfl, by omega, by omega, fun W hW i hi => ?_⟩
      obtain ⟨cur', h6, h7⟩ := hW.shape g cur _ _ h3 (by omega)
      exact ⟨cell_atv h6 i (by rw [h7, h5]; omega), frozen_of_row W g i cur' _ h6⟩
  clear hv
  go_enter Tryz.func15, Tryz.ntmps15
  go_wp2
  go_loopw [2, 7] (fun _ i wr => ∃ (k : Nat), k ≤ n ∧ i = .int .i64 k ∧ Out L H w wr) (fun _ i _ => n - (RowKit.intOf i).toNat)
  case atStart => exact ⟨0, Nat.zero_le _, rfl, Out.refl _ _ _⟩
  case round =>
    obtain ⟨k, hk, rfl, ho⟩ := hrel
    by_cases hlt : k < n
    · have hltI : (k : Int) < n := by omega
      obtain ⟨g, rfl, hg1, hg2, hgc⟩ := HP.out (by omega)
      obtain ⟨⟨u0, e0⟩, f0⟩ := hgc _ ho (k * 4) (by omega)
      obtain ⟨⟨u1, e1⟩, f1⟩ := hgc _ ho (k * 4 + 1) (by omega)
      obtain ⟨⟨u2', e2⟩, f2⟩ := hgc _ ho (k * 4 + 2) (by omega)
      obtain ⟨⟨u3', e3⟩, f3⟩ := hgc _ ho (k * 4 + 3) (by omega)
      have HOO : Hid (Out L H w wr ∧ L ≤ g ∧ g < H) := ⟨ho, hg1, hg2⟩
      clear hgc ho hg1 hg2
      go_wp2_with fail
      go_roundw
      case rel => exact ⟨k + 1, by omega, by go_num, out_set4v HOO.out.1 HOO.out.2.1 HOO.out.2.2 _ _ _ _ _ _ _ _⟩
      case measure => simp [RowKit.intOf]; omega
    · have hltI : ¬ (k : Int) < n := by omega
      have hli := HV.out _ ho
      have HOO : Hid (Out L H w wr) := ho
      clear HP ho
      go_wp2_with fail
      have HL : Hid (LiR wr L H w.heap.size (.slice p n cap) n) := hli
      clear hli
      go_loopw [3, 4] (fun s i wr => ∃ (k : Nat), k ≤ 20 ∧ i = .int .i64 k ∧ Hid (Out L H w wr ∧ LiR wr L H w.heap.size s (n + k))) (fun _ i _ => 20 - (RowKit.intOf i).toNat)
      case atStart => exact ⟨0, Nat.zero_le _, rfl, HOO.out, HL.out⟩
      case round =>
        clear HOO HL
        obtain ⟨k, hk, rfl, HR⟩ := hrel
        obtain ⟨p', c', rfl⟩ := HR.out.2.val
        by_cases hlt : k < 20
        · have hltJ : (k : Int) < 20 := by omega
          have bA := (Below.refl wr.heap.size wr).alloc (Nat.le_refl _) (.cells #[.string ⟨#[109, 111, 114, 101]⟩, .int .i64 0, .int .i64 0, .string ⟨#[]⟩] 45)
          have HA : Hid (Out L H w (wr.alloc (.cells #[.string ⟨#[109, 111, 114, 101]⟩, .int .i64 0, .int .i64 0, .string ⟨#[]⟩] 45)) ∧ LiR (wr.alloc (.cells #[.string ⟨#[109, 111, 114, 101]⟩, .int .i64 0, .int .i64 0, .string ⟨#[]⟩] 45)) L H w.heap.size (.slice p' (n + k) c') (n + k)) :=
            ⟨HR.out.1.trans (Out.of_below bA), HR.out.2.below bA⟩
          have hb : n + k ≤ 2097152 := by omega
          clear HR bA
          go_wp2_with (at_builtin; refine wpList_append_res (u := w) rfl (.tmp 22) (.tmp 24) rfl L H (.slice p' (n + k) c') (n + k) rfl HA.out.2 HA.out.1 wr.heap.size 1 qMore rfl ⟨by simp, by simp, by simp, by simp⟩ hb ?_; intro v' w6 hl6 ho6; have HN : Hid (Out L H w w6 ∧ LiR w6 L H w.heap.size v' (n + (k + 1))) := ⟨ho6, hl6⟩; clear hl6 ho6 HA)
          go_roundw
          case rel => exact ⟨k + 1, by omega, by go_num, HN.out⟩
          case measure => simp [RowKit.intOf]; omega
        · have hltJ : ¬ (k : Int) < 20 := by omega
          go_wp2
          (try simp only [Exit.inBlock, Exit.then])
          refine bodyPost_end (results_none rfl _ _ _) rfl ?_
          exact ⟨rfl, HR.out.1⟩
end Go.Proofs.YthfpmhnnjjikcabGreatDoor
