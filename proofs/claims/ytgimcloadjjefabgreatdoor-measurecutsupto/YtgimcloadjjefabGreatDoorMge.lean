/- A delta gone through in pieces, purely. A loop over a function whose function writes memory of its own between two rounds, and asks for rounds at what it has laid. Where a piece of a text ends. build: own and Pieces: a delta's pieces, each with a list of its own. A Walker in memory: its own cell, the row of what is left. Calls of a piece's methods through the interface; the Walker's small calls. measure: gathered: pieces of deltas put into one. What the reference of layer 1 answers: Scalar, Encode (and what its decoder needs: places, numbers, owned rows of numbers). What the reference's first answers: the scalar with whose encoding a text begins at a place. What the reference's first and decode answer. What the reference's decode, Breaks, List and Check answer. The order of Plains: a total order. What the reference of layer 2 answers: text, Check, Compare. utf8.ValidString at this program: whether a text breaks nowhere. What the reference of layer 3 says of pairs and lists: its numbers are the code's. -/
import Derived.Test.YtgimcloadjjefabGreatDoorMgd
import Derived.Test.YtgimcloadjjefabGreatDoorMgc
import Derived.RangeFuncNested
import Derived.RangeFuncBound
import Derived.RangeFuncCalls
import Derived.RangeFuncLeaves
import Derived.Test.YtgimcloadjjefabGreatDoorLe
import Derived.Deep.RegionHeld3
import Derived.Test.YtgimcloadjjefabGreatDoorSc
import Derived.Test.YtgimcloadjjefabGreatDoorOwn
import Derived.Test.YtgimcloadjjefabGreatDoorPos
import Derived.Laws.BytesArg
import Derived.Laws.RangeString
import Derived.Laws.RangeAny
import Derived.Deep.RegionWith
import Derived.PlainAid
import Derived.Handy
import Derived.Lib.QuietBelow
import Derived.BigQuiet
import Derived.OwnWalk
import Derived.Laws.AppendOwn
import Derived.Test.YtgimcloadjjefabGreatDoorVs
import Derived.Shelf.Unicode.ValidAny
import Derived.Test.YtgimcloadjjefabGreatDoorUtf
import Derived.Test.YtgimcloadjjefabGreatDoorPc

/- A delta gone through in pieces, purely. -/
namespace Go.Proofs.YtgimcloadjjefabGreatDoor
open Go Go.RowKit Go.Lib
set_option linter.unusedVariables false

/-- The first n cells of an operation that has more, and the others. -/
def hd7 (o : Op5) (n : Int) : Op5 := if o.k = 1 then headO o n.toNat else ⟨o.k, o.t, o.v, n, o.A⟩
def tl7 (o : Op5) (n : Int) : Op5 := if o.k = 1 then tailO o n.toNat else ⟨o.k, o.t, o.v, o.c - n, o.A⟩
/-- A plain retain. -/
def pl7 (n : Int) : Op5 := ⟨3, ⟨#[]⟩, z0, n, []⟩
/-- A piece of at most n cells, and what is left. -/
def nx7 : List Op5 → Int → Op5 × List Op5
  | [], n => (pl7 (min n 1099511627776), [])
  | o :: r, n => if len5 o ≤ n then (o, r) else (hd7 o n, tl7 o n :: r)
def left7 : List Op5 → Int
  | [] => 1099511627776
  | o :: _ => len5 o
def kind7 : List Op5 → Int
  | [] => 3
  | o :: _ => o.k
theorem nx_nil (n : Int) : nx7 [] n = (pl7 (min n 1099511627776), []) := rfl
theorem nx_all {o : Op5} {r : List Op5} {n : Int} (h : len5 o ≤ n) : nx7 (o :: r) n = (o, r) := if_pos h
theorem nx_part {o : Op5} {r : List Op5} {n : Int} (h : ¬ len5 o ≤ n) : nx7 (o :: r) n = (hd7 o n, tl7 o n :: r) := if_neg h
theorem pl_good {n : Int} (h1 : 1 ≤ n) (h2 : n ≤ 1099511627776) : opE (pl7 n) = 0 ∧ len5 (pl7 n) = n := by
  have h : cntE (pl7 n) = 0 := cnt_iff.2 ⟨by kernel_rfl, rfl, h1, h2⟩
  refine ⟨?_, by unfold len5; rw [if_neg (by show ¬ ((3 : Int) = 1 ∨ (3 : Int) = 2); decide)]; rfl⟩
  unfold opE
  rw [if_neg (by show ¬ ((3 : Int) = 1 ∨ (3 : Int) = 2); decide), if_pos (show (pl7 n).k = 3 from rfl), if_neg (by rw [h]; decide)]
  rfl

/-- What a cut operation's two pieces are. -/
structure Cut7 (o : Op5) (n : Int) : Prop where
  nk : o.k ≠ 2
  h0 : opE (hd7 o n) = 0
  t0 : opE (tl7 o n) = 0
  hk : (hd7 o n).k = o.k
  tk : (tl7 o n).k = o.k
  hA : (hd7 o n).A = o.A
  tA : (tl7 o n).A = o.A
  hl : len5 (hd7 o n) = n
  tl : len5 (tl7 o n) = len5 o - n
  hz : (hd7 o n).t.size ≤ o.t.size
  tz : (tl7 o n).t.size ≤ o.t.size
  hv : (hd7 o n).v = o.v
  tv : (tl7 o n).v = o.v
  un : unitsO o = unitsO (hd7 o n) ++ unitsO (tl7 o n)
theorem opE_12 {o : Op5} (h : Ins o) (hk : o.k = 1 ∨ o.k = 2) : opE o = 0 := by
  unfold opE; rw [if_pos hk]; exact h.zero
theorem opE_3 {o : Op5} (h : Cnt o) (hA : listE true none o.A = 0) (hk : o.k = 3) : opE o = 0 := by
  unfold opE
  rw [if_neg (by omega), if_pos hk, if_neg (by rw [cnt_iff.2 h]; decide)]
  exact hA
theorem opE_4 {o : Op5} (h : Cnt o) (hA : o.A = []) (hk : o.k = 4) : opE o = 0 := by
  unfold opE
  rw [if_neg (by omega), if_neg (by omega), if_pos hk, if_neg (by rw [hA]; simp)]
  exact cnt_iff.2 h
theorem cut7 {o : Op5} {n : Int} (h : opE o = 0) (h1 : 1 ≤ n) (h2 : n < len5 o) : Cut7 o n := by
  rcases op_good h with ⟨hi, hk⟩ | ⟨hc, hA, hk⟩ | ⟨hc, hA, hk⟩
  · have e : len5 o = (lenO o : Int) := by unfold len5; rw [if_pos hk]
    rw [e] at h2
    obtain ⟨k1, kl⟩ := lenO_2 hi (by omega)
    obtain ⟨m, rfl⟩ : ∃ m : Nat, n = m := ⟨n.toNat, by omega⟩
    have hm : m < (scs o.t.data.toList).length := by omega
    have e1 : hd7 o m = headO o m := by unfold hd7; rw [if_pos k1]; rfl
    have e2 : tl7 o m = tailO o m := by unfold tl7; rw [if_pos k1]; rfl
    obtain ⟨a1, a2⟩ := ins_head hi (m := m) (by omega) hm
    obtain ⟨b1, b2⟩ := ins_tail hi (m := m) hm
    have hv : o.v = z0 := by
      rcases hi.kind with ⟨_, hv⟩ | ⟨h2, _⟩
      · exact hv
      · omega
    have hc := cells_cut hi k1 (m := m) (by omega) hm
    refine ⟨by omega, ?_, ?_, ?_, ?_, ?_, ?_, ?_, ?_, ?_, ?_, ?_, ?_, ?_⟩
    · rw [e1]; exact opE_12 a1 (.inl rfl)
    · rw [e2]; exact opE_12 b1 (.inl rfl)
    · rw [e1, k1]; rfl
    · rw [e2, k1]; rfl
    · rw [e1]; rfl
    · rw [e2]; rfl
    · rw [e1]; unfold len5; rw [if_pos (show (headO o m).k = 1 ∨ _ from .inl rfl), a2]
    · rw [e2, e]; unfold len5; rw [if_pos (show (tailO o m).k = 1 ∨ _ from .inl rfl), b2, kl]; omega
    · rw [e1]; exact size_head o m
    · rw [e2]; exact size_tail o m
    · rw [e1, hv]; rfl
    · rw [e2, hv]; rfl
    · rw [e1, e2, unitsO_1 (.inl k1), unitsO_1 (o := headO o m) (.inl rfl), unitsO_1 (o := tailO o m) (.inl rfl), hc, List.map_append]
  · have e : len5 o = o.c := by unfold len5; rw [if_neg (by omega)]
    rw [e] at h2
    have hh := hc.hi
    have e1 : hd7 o n = ⟨o.k, o.t, o.v, n, o.A⟩ := if_neg (by omega)
    have e2 : tl7 o n = ⟨o.k, o.t, o.v, o.c - n, o.A⟩ := if_neg (by omega)
    have c1 : Cnt (hd7 o n) := by rw [e1]; exact ⟨hc.text, hc.val, h1, by show n ≤ _; omega⟩
    have c2 : Cnt (tl7 o n) := by rw [e2]; exact ⟨hc.text, hc.val, by show 1 ≤ o.c - n; omega, by show o.c - n ≤ _; omega⟩
    refine ⟨by omega, opE_3 c1 (by rw [e1]; exact hA) (by rw [e1]; exact hk), opE_3 c2 (by rw [e2]; exact hA) (by rw [e2]; exact hk), by rw [e1], by rw [e2], by rw [e1], by rw [e2], ?_, ?_, by rw [e1]; exact Nat.le_refl _, by rw [e2]; exact Nat.le_refl _, by rw [e1], by rw [e2], ?_⟩
    · rw [e1]; unfold len5; rw [if_neg (by show ¬ (o.k = 1 ∨ o.k = 2); omega)]
    · rw [e2, e]; unfold len5; rw [if_neg (by show ¬ (o.k = 1 ∨ o.k = 2); omega)]
    · rw [e1, e2, unitsO_3 hk, unitsO_3 (o := ⟨o.k, o.t, o.v, n, o.A⟩) hk, unitsO_3 (o := ⟨o.k, o.t, o.v, o.c - n, o.A⟩) hk]
      show List.replicate o.c.toNat _ = List.replicate n.toNat _ ++ List.replicate (o.c - n).toNat _
      rw [List.replicate_append_replicate]
      congr 1; omega
  · have e : len5 o = o.c := by unfold len5; rw [if_neg (by omega)]
    rw [e] at h2
    have hh := hc.hi
    have e1 : hd7 o n = ⟨o.k, o.t, o.v, n, o.A⟩ := if_neg (by omega)
    have e2 : tl7 o n = ⟨o.k, o.t, o.v, o.c - n, o.A⟩ := if_neg (by omega)
    have c1 : Cnt (hd7 o n) := by rw [e1]; exact ⟨hc.text, hc.val, h1, by show n ≤ _; omega⟩
    have c2 : Cnt (tl7 o n) := by rw [e2]; exact ⟨hc.text, hc.val, by show 1 ≤ o.c - n; omega, by show o.c - n ≤ _; omega⟩
    refine ⟨by omega, opE_4 c1 (by rw [e1]; exact hA) (by rw [e1]; exact hk), opE_4 c2 (by rw [e2]; exact hA) (by rw [e2]; exact hk), by rw [e1], by rw [e2], by rw [e1], by rw [e2], ?_, ?_, by rw [e1]; exact Nat.le_refl _, by rw [e2]; exact Nat.le_refl _, by rw [e1], by rw [e2], ?_⟩
    · rw [e1]; unfold len5; rw [if_neg (by show ¬ (o.k = 1 ∨ o.k = 2); omega)]
    · rw [e2, e]; unfold len5; rw [if_neg (by show ¬ (o.k = 1 ∨ o.k = 2); omega)]
    · rw [e1, e2, unitsO_4 hk, unitsO_4 (o := ⟨o.k, o.t, o.v, n, o.A⟩) hk, unitsO_4 (o := ⟨o.k, o.t, o.v, o.c - n, o.A⟩) hk]
      show List.replicate o.c.toNat _ = List.replicate n.toNat _ ++ List.replicate (o.c - n).toNat _
      rw [List.replicate_append_replicate]
      congr 1; omega
theorem len5_pos {o : Op5} (h : opE o = 0) : 1 ≤ len5 o := by
  rcases op_good h with ⟨hi, hk⟩ | ⟨hc, hA, hk⟩ | ⟨hc, hA, hk⟩
  · unfold len5; rw [if_pos hk]; have := lenO_pos hi; omega
  · unfold len5; rw [if_neg (by omega)]; exact hc.lo
  · unfold len5; rw [if_neg (by omega)]; exact hc.lo

/-- What is left of a canonical delta is canonical, and fits as it did. -/
structure Rst (E : List Op5) (N T K : Nat) : Prop where
  good : ∀ o ∈ E, opE o = 0
  fit : ∀ o ∈ E, FitA o
  txt : txtS E ≤ T
  attr : ∀ o ∈ E, o.A.length ≤ K
  len : E.length ≤ N
  chain : chainB E = true
  last : lastP E = true
  base : sumB E ≤ 1099511627776
  res : sumR E ≤ 1099511627776
theorem Rst.size {E : List Op5} {N T K : Nat} (h : Rst E N T K) : ∀ o ∈ E, o.t.size ≤ T := fun o ho => Nat.le_trans (txtS_mem ho) h.txt
theorem txtS_cons (o : Op5) (r : List Op5) : txtS (o :: r) = o.t.size + txtS r := by unfold txtS; rfl
theorem Rst.okE {E : List Op5} {N T K : Nat} (h : Rst E N T K) (hT : T ≤ 8388608) (hN : N ≤ 4194304) : OkE E :=
  ⟨h.good, h.fit, Nat.le_trans h.txt hT, Nat.le_trans h.len hN, h.base, h.res⟩
theorem Rst.nil (N T K : Nat) : Rst [] N T K := ⟨fun _ h => (by cases h), fun _ h => (by cases h), Nat.zero_le _, fun _ h => (by cases h), Nat.zero_le _, rfl, rfl, by show (0 : Int) ≤ _; omega, by show (0 : Int) ≤ _; omega⟩
theorem lastP_cons {x y : Op5} {r : List Op5} : lastP (x :: y :: r) = lastP (y :: r) := by
  unfold lastP
  rw [List.getLast?_cons_cons]
theorem Rst.tail {x : Op5} {r : List Op5} {N T K : Nat} (h : Rst (x :: r) N T K) : Rst r N T K := by
  have hx := wel_of (h.good x (List.mem_cons_self ..))
  refine ⟨fun o ho => h.good o (List.mem_cons_of_mem _ ho), fun o ho => h.fit o (List.mem_cons_of_mem _ ho), by have := h.txt; rw [txtS_cons] at this; omega, fun o ho => h.attr o (List.mem_cons_of_mem _ ho), by have := h.len; simp at this; omega, chain_tail h.chain, ?_, by have := h.base; rw [sumB_cons] at this; have := base_nn hx; omega, by have := h.res; rw [sumR_cons] at this; have := res_nn hx; omega⟩
  cases r with
  | nil => rfl
  | cons y r => rw [← lastP_cons]; exact h.last
theorem apart_same {x x' y : Op5} (hk : x'.k = x.k) (hA : x'.A = x.A) : apartB x' y = apartB x y := by unfold apartB; rw [hk, hA]
theorem plain_same {x x' : Op5} (hk : x'.k = x.k) (hA : x'.A = x.A) : plainR x' = plainR x := by unfold plainR; rw [hk, hA]
theorem Rst.part {x : Op5} {r : List Op5} {N T K : Nat} (h : Rst (x :: r) N T K) {n : Int} (h1 : 1 ≤ n) (h2 : ¬ len5 x ≤ n) : Rst (tl7 x n :: r) N T K := by
  have hx := h.good x (List.mem_cons_self ..)
  have c := cut7 hx h1 (by omega)
  have fx := h.fit x (List.mem_cons_self ..)
  have eb : baseO (tl7 x n) ≤ baseO x := by unfold baseO; rw [c.tk, c.tl]; split <;> omega
  have er : resO (tl7 x n) ≤ resO x := by unfold resO; rw [c.tk, c.tl]; split <;> omega
  refine ⟨fun o ho => ?_, fun o ho => ?_, ?_, fun o ho => ?_, by have := h.len; simp at this ⊢; omega, ?_, ?_, by have := h.base; rw [sumB_cons] at this ⊢; omega, by have := h.res; rw [sumR_cons] at this ⊢; omega⟩
  · rcases List.mem_cons.1 ho with rfl | ho
    · exact c.t0
    · exact h.good o (List.mem_cons_of_mem _ ho)
  · rcases List.mem_cons.1 ho with rfl | ho
    · exact ⟨by rw [c.tv]; exact fx.v, by rw [c.tA]; exact fx.A, by rw [c.tA]; exact fx.n⟩
    · exact h.fit o (List.mem_cons_of_mem _ ho)
  · have := h.txt
    have := c.tz
    rw [txtS_cons] at *
    omega
  · rcases List.mem_cons.1 ho with rfl | ho
    · rw [c.tA]; exact h.attr x (List.mem_cons_self ..)
    · exact h.attr o (List.mem_cons_of_mem _ ho)
  · cases r with
    | nil => rfl
    | cons y r =>
      have := h.chain
      unfold chainB at this ⊢
      rw [apart_same c.tk c.tA]; exact this
  · cases r with
    | nil =>
      have := h.last
      unfold lastP at this ⊢
      simp only [List.getLast?_singleton] at this ⊢
      rw [plain_same c.tk c.tA]; exact this
    | cons y r => rw [lastP_cons]; rw [← lastP_cons (x := x)]; exact h.last
theorem Rst.next {R : List Op5} {N T K : Nat} (h : Rst R N T K) {n : Int} (h1 : 1 ≤ n) : Rst (nx7 R n).2 N T K := by
  cases R with
  | nil => exact h
  | cons x r =>
    by_cases hn : len5 x ≤ n
    · rw [nx_all hn]; exact h.tail
    · rw [nx_part hn]; exact h.part h1 hn
theorem Rst.fitOne {x : Op5} {r : List Op5} {N T K : Nat} (h : Rst (x :: r) N T K) {n : Int} (h1 : 1 ≤ n) (h2 : ¬ len5 x ≤ n) : FitA (hd7 x n) := by
  have c := cut7 (h.good x (List.mem_cons_self ..)) h1 (by omega)
  have fx := h.fit x (List.mem_cons_self ..)
  exact ⟨by rw [c.hv]; exact fx.v, by rw [c.hA]; exact fx.A, by rw [c.hA]; exact fx.n⟩
/-- A piece that is taken is good, and has as many cells as asked for, or as there are. -/
theorem Rst.piece {R : List Op5} {N T K : Nat} (h : Rst R N T K) {n : Int} (h1 : 1 ≤ n) : opE (nx7 R n).1 = 0 ∧ FitA (nx7 R n).1 ∧ (nx7 R n).1.t.size ≤ T ∧ (nx7 R n).1.A.length ≤ K ∧ len5 (nx7 R n).1 = min n (left7 R) ∧ (nx7 R n).1.k = kind7 R := by
  cases R with
  | nil =>
    obtain ⟨p1, p2⟩ := pl_good (n := min n 1099511627776) (by omega) (by omega)
    exact ⟨p1, ⟨Nat.zero_le _, fun _ h => (by cases h), Nat.zero_le _⟩, Nat.zero_le _, Nat.zero_le _, p2, rfl⟩
  | cons x r =>
    have hx := h.good x (List.mem_cons_self ..)
    by_cases hn : len5 x ≤ n
    · rw [nx_all hn]
      exact ⟨hx, h.fit x (List.mem_cons_self ..), h.size x (List.mem_cons_self ..), h.attr x (List.mem_cons_self ..), by show len5 x = min n (len5 x); omega, rfl⟩
    · rw [nx_part hn]
      have c := cut7 hx h1 (by omega)
      exact ⟨c.h0, h.fitOne h1 hn, Nat.le_trans c.hz (h.size x (List.mem_cons_self ..)), by rw [c.hA]; exact h.attr x (List.mem_cons_self ..), by rw [c.hl]; show n = min n (len5 x); omega, c.hk⟩
/-- What has been taken and what is left have the units that were. -/
theorem Rst.units {R : List Op5} {N T K : Nat} (h : Rst R N T K) {n : Int} (h1 : 1 ≤ n) (h0 : R ≠ []) : units R = unitsO (nx7 R n).1 ++ units (nx7 R n).2 := by
  cases R with
  | nil => exact absurd rfl h0
  | cons x r =>
    by_cases hn : len5 x ≤ n
    · rw [nx_all hn]; rfl
    · rw [nx_part hn]
      have c := cut7 (h.good x (List.mem_cons_self ..)) h1 (by omega)
      show unitsO x ++ _ = unitsO (hd7 x n) ++ (unitsO (tl7 x n) ++ _)
      rw [c.un, List.append_assoc]
theorem Rst.wel {R : List Op5} {N T K : Nat} (h : Rst R N T K) : ∀ o ∈ R, Wel o := fun o ho => wel_of (h.good o ho)
theorem Rst.canon {R : List Op5} {N T K : Nat} (h : Rst R N T K) : canonL R = R := canon_self h.wel h.chain h.last
end Go.Proofs.YtgimcloadjjefabGreatDoor

/- A loop over a function whose function writes memory of its own between two rounds, and asks for rounds at what it has laid. -/
namespace Go.Proofs.YtgimcloadjjefabGreatDoor
open Go Go.RowKit
set_option linter.unusedVariables false

/-- What has turned is no cells, and lies at B or beyond. -/
structure Bk7 (B : Nat) (A A' : World) : Prop where
  os : A'.os = A.os
  tape : A'.tape = A.tape
  output : A'.output = A.output
  size : A.heap.size ≤ A'.heap.size
  kept : ∀ (k : Nat) (o : Obj), A.heap[k]? = some o → (k < B ∨ o.isCells = true) → A'.heap[k]? = some o
/-- What has turned is cells of certain types, at B or beyond. -/
structure It7 (T : TypeId → Prop) (B : Nat) (A A' : World) : Prop where
  os : A'.os = A.os
  tape : A'.tape = A.tape
  output : A'.output = A.output
  size : A.heap.size ≤ A'.heap.size
  kept : ∀ (k : Nat) (o : Obj), A.heap[k]? = some o → (k < B ∨ ¬ ∃ cs t fz, o = .cells cs t fz ∧ T t) → A'.heap[k]? = some o
/-- Cells of other types, and what lies below B, are as they were. -/
structure Tr7 (T : TypeId → Prop) (B : Nat) (A A' : World) : Prop where
  os : A'.os = A.os
  tape : A'.tape = A.tape
  output : A'.output = A.output
  size : A.heap.size ≤ A'.heap.size
  kept : ∀ (k : Nat) (o : Obj), A.heap[k]? = some o → (k < B ∨ ∃ cs t fz, o = .cells cs t fz ∧ ¬ T t) → A'.heap[k]? = some o
theorem Bk7.tr {T : TypeId → Prop} {B : Nat} {A A' : World} (h : Bk7 B A A') : Tr7 T B A A' :=
  ⟨h.os, h.tape, h.output, h.size, fun k o hk ho => h.kept k o hk (ho.imp id (fun ⟨cs, t, fz, e, _⟩ => by rw [e]; rfl))⟩
theorem It7.tr {T : TypeId → Prop} {B B' : Nat} {A A' : World} (h : It7 T B A A') (hB : B' ≤ B) : Tr7 T B' A A' :=
  ⟨h.os, h.tape, h.output, h.size, fun k o hk ho => h.kept k o hk (ho.elim (fun q => .inl (by omega)) (fun ⟨cs, t, fz, e, hn⟩ => .inr (fun ⟨cs', t', fz', e', ht⟩ => by rw [e] at e'; cases e'; exact hn ht)))⟩
theorem Bk7.refl (B : Nat) (A : World) : Bk7 B A A := ⟨rfl, rfl, rfl, Nat.le_refl _, fun _ _ h _ => h⟩
theorem Bk7.trans {B : Nat} {X Y Z : World} (h : Bk7 B X Y) (k : Bk7 B Y Z) : Bk7 B X Z :=
  ⟨k.os.trans h.os, k.tape.trans h.tape, k.output.trans h.output, Nat.le_trans h.size k.size, fun i o hi ho => k.kept i o (h.kept i o hi ho) ho⟩
theorem Tr7.refl (T : TypeId → Prop) (B : Nat) (A : World) : Tr7 T B A A := ⟨rfl, rfl, rfl, Nat.le_refl _, fun _ _ h _ => h⟩
theorem Tr7.trans {T : TypeId → Prop} {B : Nat} {X Y Z : World} (h : Tr7 T B X Y) (k : Tr7 T B Y Z) : Tr7 T B X Z :=
  ⟨k.os.trans h.os, k.tape.trans h.tape, k.output.trans h.output, Nat.le_trans h.size k.size, fun i o hi ho => k.kept i o (h.kept i o hi ho) ho⟩
theorem It7.refl (T : TypeId → Prop) (B : Nat) (A : World) : It7 T B A A := ⟨rfl, rfl, rfl, Nat.le_refl _, fun _ _ h _ => h⟩
theorem It7.trans {T : TypeId → Prop} {B : Nat} {X Y Z : World} (h : It7 T B X Y) (k : It7 T B Y Z) : It7 T B X Z :=
  ⟨k.os.trans h.os, k.tape.trans h.tape, k.output.trans h.output, Nat.le_trans h.size k.size, fun i o hi ho => k.kept i o (h.kept i o hi ho) ho⟩
theorem Bk7.put {B l : Nat} {W : World} {o : Obj} (o' : Obj) (hB : B ≤ l) (hl : W.heap[l]? = some o) (ho : o.isCells = false) : Bk7 B W (W.putObj l o') :=
  ⟨rfl, rfl, rfl, by simp, fun k x hk hx => by
    have : k ≠ l := fun e => by
      subst e; rw [hl] at hk; cases hk
      rcases hx with hx | hx
      · omega
      · simp [ho] at hx
    exact (World.putObj_heap_other this).trans hk⟩
theorem Bk7.alloc (B : Nat) (W : World) (o : Obj) : Bk7 B W (W.alloc o) :=
  ⟨rfl, rfl, rfl, by simp, fun k x hk _ => (Below.heap_alloc _ _ _ (Array.getElem?_eq_some_iff.1 hk).1).trans hk⟩
theorem Tr7.of_below {T : TypeId → Prop} {B : Nat} {A A' : World} (h : Below A.heap.size A A') : Tr7 T B A A' :=
  ⟨h.os, h.tape, h.output, h.size, fun k o hk _ => (h.block k (Array.getElem?_eq_some_iff.1 hk).1).trans hk⟩
theorem It7.of_below {T : TypeId → Prop} {B : Nat} {A A' : World} (h : Below A.heap.size A A') : It7 T B A A' :=
  ⟨h.os, h.tape, h.output, h.size, fun k o hk _ => (h.block k (Array.getElem?_eq_some_iff.1 hk).1).trans hk⟩
theorem Tr7.below {T : TypeId → Prop} {B : Nat} {A A' : World} (h : Tr7 T B A A') (hB : B ≤ A.heap.size) : Below B A A' :=
  ⟨h.os, h.tape, h.output, h.size, fun k hk => by
    have hl : k < A.heap.size := by omega
    rw [h.kept k A.heap[k] (Array.getElem?_eq_getElem hl) (.inl hk), Array.getElem?_eq_getElem hl]⟩

/-- The contract of a function to be ranged over: it asks for a round at x behind pre where G holds; the round keeps Kp. -/
def SeqG {α : Type} (F : Fence) (n : Nat) (P : Program) (g : Nat) (lb : Array Value) (encs : α → Array Value) (T : TypeId → Prop)
    (G : List α → α → World → Prop) (Kp : List α → α → World → World → Prop) (S : List α → Prop) (w0 : World) : Prop :=
  ∀ (l : Nat) (J Jx : List α → World → Prop) (W : World), Below w0.heap.size w0 W →
    (∀ s A A', J s A → It7 T W.heap.size A A' → J s A') → (∀ s A A', Jx s A → It7 T W.heap.size A A' → Jx s A') →
    (∀ pre x W1, J pre W1 → G pre x W1 → YieldAt F (n - 1) P l (encs x) W1 fun e W' =>
      (e = .returned (.bool true) ∧ J (pre ++ [x]) W' ∧ Kp pre x W1 W') ∨ (e = .returned (.bool false) ∧ Jx (pre ++ [x]) W')) →
    J [] W →
    CallsIn F n P g (#[.func (.yield l) #[] #[]] ++ lb) W fun e W' => (∃ v, e = .returned v) ∧ ((∃ xs, S xs ∧ J xs W') ∨ (∃ pre, Jx pre W'))

/-- How a round's body may be left. -/
def gPost {α : Type} (B : Nat) (Kp : List α → α → World → World → Prop) (I : List α → World → Prop) (Ix : Code → List α → World → Prop) (pre : List α) (x : α) (W : World) : Exit → Act → World → Prop
  | .normal, _, W' => KeepsFrom B W W' ∧ Kp pre x W W' ∧ I (pre ++ [x]) W'
  | .ret, _, W' => KeepsFrom B W W' ∧ Ix .ret (pre ++ [x]) W'
  | .exit id, _, W' => KeepsFrom B W W' ∧ Ix (.exit id) (pre ++ [x]) W'
  | .goto t, _, W' => KeepsFrom B W W' ∧ Ix (.goto t) (pre ++ [x]) W'
  | .panic _, _, _ => False
  | .outgrown, _, _ => False

variable {F : Fence} {n : Nat} {P : Program}

theorem wpIn_rangeFunc_G {α : Type} {g : Operand} {ps : Array Tmp} {assign body : Code} {Q : Exit → Act → World → Prop} {a : Act} {w : World}
    (hro : F.round = none) (h1 : 1 ≤ n) {gf : Nat} {lb : Array Value} (hg : a.eval g = .func (.func gf) #[] lb) (hFg : F.fn gf) (eg : ∀ args w, (callFunc gf args).run P w = .ok (.enter gf args) w)
    {encs : α → Array Value} {T : TypeId → Prop} {G : List α → α → World → Prop} {Kp : List α → α → World → World → Prop} {S : List α → Prop} {w0 : World}
    (hseq : SeqG F (n - 1) P gf lb encs T G Kp S w0) (hb0 : Below w0.heap.size w0 w) (hps : ∀ x, (encs x).size = ps.size)
    (hG : ∀ pre x A A', G pre x A → Bk7 w.heap.size A A' → G pre x A')
    (hK : ∀ pre x A A' B B', Bk7 w.heap.size A A' → Kp pre x A' B → Bk7 w.heap.size B B' → Kp pre x A B')
    (I : List α → World → Prop) (Ix : Code → List α → World → Prop)
    (hI : ∀ s A A', I s A → Tr7 T w.heap.size A A' → I s A') (hIx : ∀ c s A A', Ix c s A → Tr7 T w.heap.size A A' → Ix c s A') (h0 : I [] w) (a₁ : α → Act)
    (hassign : ∀ (l : Nat) (x : α) (W : World) (K : Act → World → Prop), K (a₁ x) W →
      assign.wpIn (F.inRound l) (n - 1 - 1) P (Exit.then K (fun _ _ _ => False)) { tmps := (ps.zip (encs x)).foldl (fun t (p, v) => t.setIfInBounds p v) a.tmps, defers := [] } W)
    (hbody : ∀ (l : Nat) (pre : List α) (x : α) (W : World), I pre W → G pre x W → body.wpIn (F.inRound l) (n - 1 - 1) P (gPost w.heap.size Kp I Ix pre x W) (a₁ x) W)
    (hdone : ∀ (D : Nat) (xs : List α) (W : World), w.heap.size ≤ D → S xs → I xs W → W.heap[D]? = some (.deferred (some [])) → Q .normal { a with defers := { target := .collected D, args := #[] } :: a.defers } W)
    (hstop : ∀ (D : Nat) (c : Code) (pre : List α) (W : World), w.heap.size ≤ D → Ix c pre W → W.heap[D]? = some (.deferred (some [])) → c.wpIn F n P Q { a with defers := { target := .collected D, args := #[] } :: a.defers } W) :
    (Code.rangeFunc g ps assign body).wpIn F n P Q a w := by
  refine wpIn_rangeFunc fun fn hfn => ?_
  rw [hro]
  obtain ⟨rc, hrc⟩ : ∃ rc : LoopState → Option Code → Loop, ∀ s p, rc s p = { state := s, pending := p, fn, tmps := a.tmps, params := ps, assign, body, defers := w.heap.size } := ⟨_, fun _ _ => rfl⟩
  -- the record and the block for deferred calls
  obtain ⟨L, hL⟩ : ∃ L : Option Obj → World → Prop, ∀ o W, L o W = (W.heap[w.heap.size + 1]? = o ∧ W.heap[w.heap.size]? = some (.deferred (some []))) := ⟨_, fun _ _ => rfl⟩
  obtain ⟨W1, hW1⟩ : ∃ W1, (w.alloc (.deferred (some []))).alloc (.loop (rc .ready none)) = W1 := ⟨_, rfl⟩
  have bk1 : Bk7 w.heap.size w W1 := by rw [← hW1]; exact (Bk7.alloc _ _ _).trans (Bk7.alloc _ _ _)
  have hL1 : L (some (.loop (rc .ready none))) W1 := by
    rw [hL, ← hW1]
    have e := World.alloc_heap_new (w.alloc (.deferred (some []))) (.loop (rc .ready none))
    rw [World.size_alloc] at e
    exact ⟨e, (Below.heap_alloc _ _ _ (by simp)).trans (World.alloc_heap_new w _)⟩
  have put : ∀ (o : Obj) (r : Loop) (W : World), L (some (.loop r)) W → L (some o) (W.putObj (w.heap.size + 1) o) ∧ Bk7 w.heap.size W (W.putObj (w.heap.size + 1) o) := fun o r W h => by
    rw [hL] at h ⊢
    exact ⟨⟨World.putObj_heap_same (Array.getElem?_eq_some_iff.1 h.1).1, (World.putObj_heap_other (by omega)).trans h.2⟩, Bk7.put _ (by omega) h.1 rfl⟩
  have trL : ∀ (r : Loop) (A A' : World), L (some (.loop r)) A → It7 T W1.heap.size A A' → L (some (.loop r)) A' := fun r A A' h k => by
    rw [hL] at h ⊢
    exact ⟨k.kept _ _ h.1 (.inr (fun ⟨_, _, _, e, _⟩ => by cases e)), k.kept _ _ h.2 (.inr (fun ⟨_, _, _, e, _⟩ => by cases e))⟩
  have hz : w.heap.size ≤ W1.heap.size := bk1.size
  refine ⟨w.heap.size + 1, [{ target := .collected w.heap.size, args := #[] }], W1, { target := .fn (.func gf) lb, args := #[.func (.yield (w.heap.size + 1)) #[] #[]] }, W1, gf,
    #[.func (.yield (w.heap.size + 1)) #[] #[]] ++ lb, W1, ?_, ?_, ?_, ?_, fun _ => h1, ?_⟩
  · rw [← hW1, hrc]; exact run_enterLoop_outer _ _ _ _ _
  · simp only [resolve, hg]
    simp [go_sem]
  · intro f' hf'; simp [Target.leads] at hf'; subst hf'; exact hFg
  · simp [invoke, go_sem, eg]
  · refine (hseq (w.heap.size + 1) (fun pre W => I pre W ∧ L (some (.loop (rc .ready none))) W) (fun pre W => ∃ c, Ix c pre W ∧ L (some (.loop (rc .done (some c)))) W) W1
      (hb0.trans ((Tr7.below (bk1.tr (T := T)) (Nat.le_refl _)).mono hb0.size))
      (fun s A A' h k => ⟨hI s A A' h.1 (k.tr hz), trL _ _ _ h.2 k⟩) (fun s A A' ⟨c, h, h'⟩ k => ⟨c, hIx c s A A' h (k.tr hz), trL _ _ _ h' k⟩) ?_ ⟨hI _ _ _ h0 bk1.tr, hL1⟩).mono ?_
    · rintro pre x W ⟨hi, hl⟩ hg
      obtain ⟨q1, q2⟩ := put (.loop (rc .busy none)) _ W hl
      have hlp := (show L (some (.loop (rc .ready none))) W from hl)
      rw [hL] at hlp
      have hy := run_yield (P := P) (args := encs x) hlp.1 (by rw [hrc]; exact hps x)
      rw [hrc] at hy
      refine ⟨fn, _, assign, body, hy, roundIn_of_wpIn hfn (hassign _ x W _ ⟨_, run_beginRound hlp.1 (by rw [hrc]), ?_⟩)⟩
      have eb : ({ rc .ready none with state := LoopState.busy } : Loop) = rc .busy none := by rw [hrc, hrc]
      rw [eb]
      refine wpIn_mono (hbody _ pre x _ (hI _ _ _ hi q2.tr) (hG _ _ _ _ hg q2)) ?_
      have fin : ∀ (jump : Option Code) (W3 : World), KeepsFrom w.heap.size (W.putObj (w.heap.size + 1) (.loop (rc .busy none))) W3 →
          (Instr.endRound (w.heap.size + 1) jump).run P W3 = .ok (.bool jump.isNone) (W3.putObj (w.heap.size + 1) (.loop (rc (if jump.isNone then .ready else .done) jump))) ∧
          L (some (.loop (rc (if jump.isNone then .ready else .done) jump))) (W3.putObj (w.heap.size + 1) (.loop (rc (if jump.isNone then .ready else .done) jump))) ∧
          Bk7 w.heap.size W3 (W3.putObj (w.heap.size + 1) (.loop (rc (if jump.isNone then .ready else .done) jump))) := fun jump W3 k3 => by
        have l3 : L (some (.loop (rc .busy none))) W3 := by
          rw [hL] at q1 ⊢
          exact ⟨k3.same _ _ (by omega) q1.1 rfl, k3.same _ _ (Nat.le_refl _) q1.2 rfl⟩
        obtain ⟨p1, p2⟩ := put (.loop (rc (if jump.isNone then .ready else .done) jump)) _ W3 l3
        rw [hL] at l3
        have e := run_endRound (P := P) jump l3.1
        rw [hrc] at e
        exact ⟨by rw [hrc]; exact e, p1, p2⟩
      rintro e a3 W3 hp
      cases e with
      | normal =>
        obtain ⟨k3, kp, hi3⟩ := hp
        obtain ⟨r1, r2, r3⟩ := fin none W3 k3
        exact ⟨_, _, r1, .inl ⟨rfl, ⟨hI _ _ _ hi3 r3.tr, r2⟩, hK _ _ _ _ _ _ q2 kp r3⟩⟩
      | ret =>
        obtain ⟨k3, hi3⟩ := hp
        obtain ⟨r1, r2, r3⟩ := fin (some .ret) W3 k3
        exact ⟨_, _, r1, .inr ⟨rfl, _, hIx _ _ _ _ hi3 r3.tr, r2⟩⟩
      | exit id =>
        obtain ⟨k3, hi3⟩ := hp
        obtain ⟨r1, r2, r3⟩ := fin (some (.exit id)) W3 k3
        exact ⟨_, _, r1, .inr ⟨rfl, _, hIx _ _ _ _ hi3 r3.tr, r2⟩⟩
      | goto t =>
        obtain ⟨k3, hi3⟩ := hp
        obtain ⟨r1, r2, r3⟩ := fin (some (.goto t)) W3 k3
        exact ⟨_, _, r1, .inr ⟨rfl, _, hIx _ _ _ _ hi3 r3.tr, r2⟩⟩
      | panic ch => exact hp.elim
      | outgrown => exact hp.elim
    · rintro e W2 ⟨⟨v, rfl⟩, (⟨xs, hS, hi, hl⟩ | ⟨pre, c, hi, hl⟩)⟩
      · obtain ⟨p1, p2⟩ := put (.loop (rc .exhausted none)) _ W2 hl
        rw [hL] at hl p1
        have r := run_endLoop (P := P) hl.1 (by rw [hrc]; simp)
        rw [hrc] at r
        rw [hrc] at p1 p2
        exact ⟨none, _, r, hdone _ xs _ (Nat.le_refl _) hS (hI _ _ _ hi p2.tr) p1.2⟩
      · obtain ⟨p1, p2⟩ := put (.loop (rc .exhausted (some c))) _ W2 hl
        rw [hL] at hl p1
        have r := run_endLoop (P := P) hl.1 (by rw [hrc]; simp)
        rw [hrc] at r
        rw [hrc] at p1 p2
        exact ⟨some c, _, r, hstop _ c pre _ (Nat.le_refl _) (hIx _ _ _ _ hi p2.tr) p1.2⟩
end Go.Proofs.YtgimcloadjjefabGreatDoor

/- Where a piece of a text ends. -/
namespace Go.Proofs.YtgimcloadjjefabGreatDoor
open Go Go.RowKit Go.Lib
set_option linter.unusedVariables false

theorem heap_below {w w' : World} (h : Below w.heap.size w w') {k : Nat} {o : Obj} (hk : w.heap[k]? = some o) : w'.heap[k]? = some o :=
  (h.block k (Array.getElem?_eq_some_iff.1 hk).1).trans hk
set_option maxHeartbeats 2000000 in
set_option maxRecDepth 100000 in
theorem placeOf_any (s : ByteArray) (rs : List Nat) (n : Nat) (w : World) (hv : s.data.toList = encs rs) (hs : ∀ r ∈ rs, scal r) (hn : n ≤ rs.length) (hb : s.size ≤ 281474976710656) (hl : rs.length ≤ s.size) :
    Calls Tryz.prog 86 #[.string s, .int .i64 n] w fun e w' => e = .returned (.int .i64 (pos rs n)) ∧ Below w.heap.size w w' := by
  go_enter Tryz.func86, Tryz.ntmps86
  go_wp2
  go_loopw [1] (fun m w' => ∃ i : Nat, i ≤ n ∧ m = .int .i64 ((n : Int) - i) ∧ w' = w.iter s (pos rs i)) (fun _ w' => s.size - w'.iterPos w.heap.size)
  case atStart => exact ⟨0, Nat.zero_le _, by simp, rfl⟩
  case round =>
    obtain ⟨i, hi, rfl, rfl⟩ := hrel
    by_cases hlt : i < rs.length
    · obtain ⟨hd, hp⟩ := decode_pos s rs hv hs i hlt
      have hps := pos_succ rs i hlt
      have hpl := enc_pos (hs _ (List.getElem_mem hlt))
      obtain ⟨W, hW⟩ : ∃ W, (enc rs[i]).length = W := ⟨_, rfl⟩
      obtain ⟨R, hR⟩ : ∃ R, rs[i] = R := ⟨_, rfl⟩
      obtain ⟨p, hpp⟩ : ∃ p, pos rs i = p := ⟨_, rfl⟩
      obtain ⟨q, hq⟩ : ∃ q, pos rs (i + 1) = q := ⟨_, rfl⟩
      rw [hW, hR, hpp] at hd
      rw [hW] at hpl
      rw [hpp, hW, hq] at hps
      rw [hpp] at hp ⊢
      have hnx : ∀ ty, (Instr.next (.pointer (some ⟨w.heap.size, 0, none⟩)) true ty).run Tryz.prog (w.iter s p) = .ok (.tuple #[.bool true, .int .i64 p, .int .i32 R]) (w.iter s q) := fun ty => by
        have := run_next_any (P := Tryz.prog) w s p ty hp
        rw [hd] at this
        rw [this, hps]
      have HP : Hid (pos rs i = p) := hpp
      have HQ : Hid (pos rs (i + 1) = q) := hq
      have hpq : p < q := by omega
      clear hd hps hpp hq hR hW hv hs
      by_cases hz : i = n
      · have hz' : ((n : Int) - i) = 0 := by omega
        go_wp2
        go_ret
        rw [← HP.out, hz]
        exact ⟨rfl, (Below.refl _ _).alloc (Nat.le_refl _) _⟩
      · have hz' : ¬ ((n : Int) - i) = 0 := by omega
        go_wp2
        go_roundw
        case rel => exact ⟨i + 1, by omega, by go_num, by rw [HQ.out]⟩
        case measure => simp; omega
    · have he : i = n := by omega
      have hpe : pos rs i = s.size := by
        have h1 : i = rs.length := by omega
        rw [h1, pos_all, ← hv, size_toList]
      have hnx : ∀ ty, (Instr.next (.pointer (some ⟨w.heap.size, 0, none⟩)) true ty).run Tryz.prog (w.iter s (pos rs i)) = _ := fun ty => run_next_end w s _ ty (by omega)
      have hP : Hid (pos rs n = s.size) := by show _ = _; rw [← he]; exact hpe
      clear hpe hv hs he
      go_wp2
      go_ret
      rw [hP.out]
      exact ⟨rfl, (Below.refl _ _).alloc (Nat.le_refl _) _⟩

end Go.Proofs.YtgimcloadjjefabGreatDoor

/- build: own and Pieces: a delta's pieces, each with a list of its own. -/
namespace Go.Proofs.YtgimcloadjjefabGreatDoor
open Go Go.RowKit Go.Lib
set_option linter.unusedVariables false

theorem as_r_e6 (v : Value) (W : World) : (Instr.typeAssert (.iface 73 v) 60 116 true).run Tryz.prog W = .ok (.tuple #[.agg #[.slice none 0 0, .string ⟨#[]⟩, .nilIface], .bool false]) W := by kernel_rfl
theorem as_d_e6 (v : Value) (W : World) : (Instr.typeAssert (.iface 82 v) 60 116 true).run Tryz.prog W = .ok (.tuple #[.agg #[.slice none 0 0, .string ⟨#[]⟩, .nilIface], .bool false]) W := by kernel_rfl
set_option maxHeartbeats 2000000 in
set_option maxRecDepth 100000 in
theorem own1_any (p : Option Addr) (l c : Nat) (t : ByteArray) (n : Int) (A : List A2) (w : World) (hR : RN w (.slice p l c) A) (hl : A.length ≤ 2097152) :
    Calls Tryz.prog 42 #[.iface 111 (.agg #[.slice p l c, .string t, .int .i64 n])] w fun r w' => ∃ p' c', r = .returned (.iface 111 (.agg #[.slice p' A.length c', .string t, .int .i64 n])) ∧ OwnA w' w.heap.size (.slice p' A.length c') A ∧ Below w.heap.size w w' := by
  have b0 : Below w.heap.size w (w.alloc (.cells #[.slice p l c, .string t, .int .i64 n] 111)) := (Below.refl _ _).alloc (Nat.le_refl _) _
  have k0 := heap_alloc_new w (.cells #[.slice p l c, .string t, .int .i64 n] 111)
  have cA := attributes_any (.slice p l c) A _ (hR.below b0).row hR.nz hl
  clear hR hl
  have a0 := as_i_i
  go_enter Tryz.func42, Tryz.ntmps42
  go_wp2_with fail
  refine cA.mono ?_; rintro r w2 ⟨v', rfl, own2, hb2⟩
  obtain ⟨p', c', rfl⟩ := own_slice own2
  have m0 := (hb2.block _ (by simp only [World.size_alloc]; omega)).trans k0
  have d0 : w2.cell? ⟨w.heap.size, 0, none⟩ = some (.slice p l c) := by rw [cell_of_heap m0]; rfl
  have d1 : w2.cell? ⟨w.heap.size, 1, none⟩ = some (.string t) := by rw [cell_of_heap m0]; rfl
  have d2 : w2.cell? ⟨w.heap.size, 2, none⟩ = some (.int .i64 n) := by rw [cell_of_heap m0]; rfl
  have f0 : w2.frozen? ⟨w.heap.size, 0, none⟩ = false := frozen_of_heap m0 0
  have HQ : Hid (OwnA (w2.setCell ⟨w.heap.size, 0, none⟩ (.slice p' A.length c')) w.heap.size (.slice p' A.length c') A ∧ Below w.heap.size w (w2.setCell ⟨w.heap.size, 0, none⟩ (.slice p' A.length c'))) :=
    ⟨own_weaken (ownsRow_setCell_below own2 (a := ⟨w.heap.size, 0, none⟩) (by simp only [World.size_alloc]; omega) _) (by simp only [World.size_alloc]; omega), (b0.trans (hb2.mono b0.size)).setCell (Nat.le_refl _) _⟩
  clear cA b0 k0 own2 hb2 m0
  go_wp2
  go_ret
  exact ⟨p', c', rfl, HQ.out⟩
set_option maxHeartbeats 2000000 in
set_option maxRecDepth 100000 in
theorem own2_any (p : Option Addr) (l c : Nat) (t : ByteArray) (V : Value) (A : List A2) (w : World) (hR : RN w (.slice p l c) A) (hl : A.length ≤ 2097152) (hV : ∃ u x, V = .iface u x) :
    Calls Tryz.prog 42 #[.iface 116 (.agg #[.slice p l c, .string t, V])] w fun r w' => ∃ p' c', r = .returned (.iface 116 (.agg #[.slice p' A.length c', .string t, V])) ∧ OwnA w' w.heap.size (.slice p' A.length c') A ∧ Below w.heap.size w w' := by
  obtain ⟨u, x, rfl⟩ := hV
  have b0 : Below w.heap.size w (w.alloc (.cells #[.slice p l c, .string t, .iface u x] 116)) := (Below.refl _ _).alloc (Nat.le_refl _) _
  have k0 := heap_alloc_new w (.cells #[.slice p l c, .string t, .iface u x] 116)
  have cA := attributes_any (.slice p l c) A _ (hR.below b0).row hR.nz hl
  clear hR hl
  have a0 := as_e_i
  have a1 := as_e_e
  go_enter Tryz.func42, Tryz.ntmps42
  go_wp2_with fail
  refine cA.mono ?_; rintro r w2 ⟨v', rfl, own2, hb2⟩
  obtain ⟨p', c', rfl⟩ := own_slice own2
  have m0 := (hb2.block _ (by simp only [World.size_alloc]; omega)).trans k0
  have d0 : w2.cell? ⟨w.heap.size, 0, none⟩ = some (.slice p l c) := by rw [cell_of_heap m0]; rfl
  have d1 : w2.cell? ⟨w.heap.size, 1, none⟩ = some (.string t) := by rw [cell_of_heap m0]; rfl
  have d2 : w2.cell? ⟨w.heap.size, 2, none⟩ = some (.iface u x) := by rw [cell_of_heap m0]; rfl
  have f0 : w2.frozen? ⟨w.heap.size, 0, none⟩ = false := frozen_of_heap m0 0
  have HQ : Hid (OwnA (w2.setCell ⟨w.heap.size, 0, none⟩ (.slice p' A.length c')) w.heap.size (.slice p' A.length c') A ∧ Below w.heap.size w (w2.setCell ⟨w.heap.size, 0, none⟩ (.slice p' A.length c'))) :=
    ⟨own_weaken (ownsRow_setCell_below own2 (a := ⟨w.heap.size, 0, none⟩) (by simp only [World.size_alloc]; omega) _) (by simp only [World.size_alloc]; omega), (b0.trans (hb2.mono b0.size)).setCell (Nat.le_refl _) _⟩
  clear cA b0 k0 own2 hb2 m0
  go_wp2
  go_ret
  exact ⟨p', c', rfl, HQ.out⟩
set_option maxHeartbeats 2000000 in
set_option maxRecDepth 100000 in
theorem own3_any (p : Option Addr) (l c : Nat) (n : Int) (A : List A2) (w : World) (hR : RN w (.slice p l c) A) (hl : A.length ≤ 2097152) :
    Calls Tryz.prog 42 #[.iface 73 (.agg #[.slice p l c, .int .i64 n])] w fun r w' => ∃ p' c', r = .returned (.iface 73 (.agg #[.slice p' A.length c', .int .i64 n])) ∧ OwnA w' w.heap.size (.slice p' A.length c') A ∧ Below w.heap.size w w' := by
  have b0 : Below w.heap.size w (w.alloc (.cells #[.slice p l c, .int .i64 n] 73)) := (Below.refl _ _).alloc (Nat.le_refl _) _
  have k0 := heap_alloc_new w (.cells #[.slice p l c, .int .i64 n] 73)
  have cA := attributes_any (.slice p l c) A _ (hR.below b0).row hR.nz hl
  clear hR hl
  have a0 := as_r_i
  have a1 := as_r_e6
  have a2 := as_r_r
  go_enter Tryz.func42, Tryz.ntmps42
  go_wp2_with fail
  refine cA.mono ?_; rintro r w2 ⟨v', rfl, own2, hb2⟩
  obtain ⟨p', c', rfl⟩ := own_slice own2
  have m0 := (hb2.block _ (by simp only [World.size_alloc]; omega)).trans k0
  have d0 : w2.cell? ⟨w.heap.size, 0, none⟩ = some (.slice p l c) := by rw [cell_of_heap m0]; rfl
  have d1 : w2.cell? ⟨w.heap.size, 1, none⟩ = some (.int .i64 n) := by rw [cell_of_heap m0]; rfl
  have f0 : w2.frozen? ⟨w.heap.size, 0, none⟩ = false := frozen_of_heap m0 0
  have HQ : Hid (OwnA (w2.setCell ⟨w.heap.size, 0, none⟩ (.slice p' A.length c')) w.heap.size (.slice p' A.length c') A ∧ Below w.heap.size w (w2.setCell ⟨w.heap.size, 0, none⟩ (.slice p' A.length c'))) :=
    ⟨own_weaken (ownsRow_setCell_below own2 (a := ⟨w.heap.size, 0, none⟩) (by simp only [World.size_alloc]; omega) _) (by simp only [World.size_alloc]; omega), (b0.trans (hb2.mono b0.size)).setCell (Nat.le_refl _) _⟩
  clear cA b0 k0 own2 hb2 m0
  go_wp2
  go_ret
  exact ⟨p', c', rfl, HQ.out⟩
set_option maxHeartbeats 1000000 in
theorem own4_any (n : Int) (w : World) : Calls Tryz.prog 42 #[.iface 82 (.agg #[.int .i64 n])] w fun r w' => r = .returned (.iface 82 (.agg #[.int .i64 n])) ∧ Below w.heap.size w w' := by
  have a0 := as_d_i
  have a1 := as_d_e6
  have a2 := as_d_r
  go_enter Tryz.func42, Tryz.ntmps42
  go_wp2
  go_ret
  exact ⟨rfl, by go_grown⟩
theorem ownP_any (e : Op5) (s : Value) (w : World) (hg : opE e = 0) (hR : RN w s e.A) (hl : e.A.length ≤ 2097152) :
    Calls Tryz.prog 42 #[pieceQ e s] w fun r w' => ∃ s', r = .returned (pieceQ e s') ∧ OwnA w' w.heap.size s' e.A ∧ Below w.heap.size w w' := by
  obtain ⟨p, c, rfl, _⟩ := hR.row.val
  rcases kinds_of hg with h | h | h | h
  · rw [pieceQ_1 h]
    refine (own1_any p _ c e.t _ e.A w hR hl).mono ?_
    rintro r w' ⟨p', c', h1, h2, h3⟩
    exact ⟨.slice p' e.A.length c', by rw [h1, pieceQ_1 h], h2, h3⟩
  · rw [pieceQ_2 h]
    refine (own2_any p _ c e.t _ e.A w hR hl (valP_if _)).mono ?_
    rintro r w' ⟨p', c', h1, h2, h3⟩
    exact ⟨.slice p' e.A.length c', by rw [h1, pieceQ_2 h], h2, h3⟩
  · rw [pieceQ_3 h]
    refine (own3_any p _ c e.c e.A w hR hl).mono ?_
    rintro r w' ⟨p', c', h1, h2, h3⟩
    exact ⟨.slice p' e.A.length c', by rw [h1, pieceQ_3 h], h2, h3⟩
  · rw [pieceQ_4 h]
    refine (own4_any e.c w).mono ?_
    rintro r w' ⟨h1, h3⟩
    exact ⟨.slice none 0 0, by rw [h1, pieceQ_4 h], by rw [drop_A hg h]; exact World.ownsRow_nil _ _ _ _, h3⟩
set_option maxHeartbeats 4000000 in
set_option maxRecDepth 100000 in
theorem pieces_any {B1 B2 : Nat} (v : Value) (E : List Op5) (w : World) (h : DelV w B1 B2 v E) (hg : ∀ o ∈ E, opE o = 0) (hA : ∀ o ∈ E, o.A.length ≤ 2097152) (hl : E.length ≤ 4194304) :
    Calls Tryz.prog 30 #[v] w fun e w' => ∃ v', e = .returned v' ∧ (∃ P, OwnI w' w.heap.size v' P ∧ PieD w' w.heap.size P E) ∧ Below w.heap.size w w' := by
  obtain ⟨q, pv, PL, rfl, _, hq, hrow, hpie⟩ := h
  have c0 : w.cell? ⟨q, 0, none⟩ = some pv := by rw [cell_of_heap hq]; rfl
  obtain ⟨p, cap, rfl, hrd⟩ := del_read (q := q) hrow hpie
  have HV : Hid (∀ k, k < E.length → ∃ ga e s, p = some ⟨ga, 0, none⟩ ∧ E[k]? = some e ∧ w.cell? ⟨ga, k, none⟩ = some (pieceQ e s) ∧ OwnA w B2 s e.A) := hrd
  have HG : Hid (∀ o ∈ E, opE o = 0 ∧ o.A.length ≤ 2097152) := fun o ho => ⟨hg o ho, hA o ho⟩
  obtain ⟨n, hn⟩ : ∃ n, E.length = n := ⟨_, rfl⟩
  have HN : Hid (E.length = n) := hn
  rw [hn] at c0 hl HV
  clear hq hrow hpie hrd hg hA hn
  go_enter Tryz.func30, Tryz.ntmps30
  go_wp2_with (at_make; refine wpList_make_pi2 _ rfl _ _ rfl w.heap.size .i64 .i64 _ n rfl rfl rfl (by omega) (Nat.le_refl _) ?_; intro v0 w1 hown hgr; have hb1 : Below w.heap.size w w1 := (Below.refl _ _).grown hgr (Nat.le_refl _) (fun k hk => by cases hk); have c1 := (hb1.cell (lt_of_cell c0)).trans c0; clear hgr)
  go_loopw [3, 17] (fun al i wr => ∃ (k : Nat) (D : List Value), k ≤ n ∧ i = .int .i64 k ∧ D.length = k ∧ OwnI wr w.heap.size al D ∧ PieD wr w.heap.size D (E.take k) ∧ Below w.heap.size w wr) (fun _ i _ => n - (RowKit.intOf i).toNat)
  case atStart => exact ⟨0, [], Nat.zero_le _, rfl, rfl, hown, .nil, hb1⟩
  case round =>
    clear hown hb1 c1
    obtain ⟨k, D, hk, rfl, hDl, hown, hsp, hbw⟩ := hrel
    by_cases hlt : k < n
    · have hltI : (k : Int) < n := by omega
      obtain ⟨ga, e, s, rfl, he, hc, hs⟩ := HV.out k hlt
      have c2 := (hbw.cell (lt_of_cell hc)).trans hc
      have hs2 := owns_below hs hbw
      obtain ⟨hg1, hA1⟩ := HG.out e (List.mem_of_getElem? he)
      have HT : Hid (E.take (k + 1) = E.take k ++ [e]) := by show _ = _; rw [List.take_add_one, he]; rfl
      have hge : Hid (∀ j, u3.ownBlock = some j → w.heap.size ≤ j) := fun j hj => (owns_block hown j hj).1
      have HO : Hid (OwnI wr w.heap.size u3 D ∧ PieD wr w.heap.size D (E.take k)) := ⟨hown, hsp⟩
      have hlen : D.length ≤ 8388608 := by omega
      have hlz : w.heap.size ≤ wr.heap.size := hbw.size
      have cO := ownP_any e s wr hg1 (own_RN hs2) hA1
      obtain ⟨u, x, hux⟩ := pieceQ_if e s
      have hq := fun s' => pieceQ_if e s'
      obtain ⟨PQ, hPQ⟩ : ∃ f : Value → Value, pieceQ e = f := ⟨_, rfl⟩
      have HPQ : Hid (pieceQ e = PQ) := hPQ
      rw [hPQ] at cO hux hq
      rw [hPQ] at c2
      rw [hux] at c2 cO
      clear he hc hs hs2 hown hsp hg1 hA1 hux hPQ
      go_wp2_with fail
      refine cO.mono ?_; rintro r w5 ⟨s', rfl, own5, hb5⟩
      obtain ⟨u', x', hux'⟩ := hq s'
      have HU : Hid (PQ s' = .iface u' x') := hux'
      rw [hux']
      have bw5 : Below w.heap.size w w5 := hbw.trans (hb5.mono hlz)
      have ba : Below w5.heap.size w5 (w5.alloc (.cells #[.iface u' x'] 60)) := (Below.refl _ _).alloc (Nat.le_refl _) _
      have hu6 : (w5.alloc (.cells #[.iface u' x'] 60)).cell? ⟨w5.heap.size, 0, none⟩ = some (.iface u' x') := by simp
      have HO7 : Hid (OwnI (w5.alloc (.cells #[.iface u' x'] 60)) w.heap.size u3 D) := owns_below (owns_below HO.out.1 hb5) ba
      have HP7 : Hid (PieD (w5.alloc (.cells #[.iface u' x'] 60)) w.heap.size (D ++ [.iface u' x']) (E.take (k + 1))) := by
        show PieD _ _ _ _
        rw [HT.out]
        exact forall2_append ((HO.out.2.below hb5).below ba) (.cons ⟨s', by rw [HPQ.out, HU.out], own_weaken (owns_below own5 ba) hlz⟩ .nil)
      have bw7 := bw5.trans (ba.mono bw5.size)
      clear own5 hb5 bw5 ba HO HT cO c2 hux' hq
      go_wp2_with (at_builtin; refine wpList_append_piAt rfl (.tmp 21) (.tmp 24) rfl w.heap.size u3 D rfl HO7.out w5.heap.size 1 (.iface u' x') rfl hu6 rfl hlen bw7.size ?_; intro v8 w8 own8 gr8 hat8; have hsp8 : Hid (PieD w8 w.heap.size _ _) := HP7.out.keep (keepA_grownI HO7.out gr8); have b8 := bw7.grown gr8 bw7.size (fun j hj => hge.out j hj); have HO8 : Hid (OwnI w8 w.heap.size v8 _) := own8; clear own8 gr8 hat8 HO7 HP7 hu6)
      go_roundw
      case rel => exact ⟨k + 1, _, by omega, by go_num, by simp [hDl], HO8.out, hsp8.out, b8⟩
      case measure => simp [RowKit.intOf]; omega
    · have hltI : ¬ (k : Int) < n := by omega
      have hE : E.take k = E := List.take_of_length_le (by rw [HN.out]; omega)
      rw [hE] at hsp
      have HX : Hid (∃ P, OwnI wr w.heap.size u3 P ∧ PieD wr w.heap.size P E) := ⟨D, hown, hsp⟩
      clear hown hsp
      go_wp2
      go_ret
      exact ⟨_, rfl, HX.out, hbw⟩
end Go.Proofs.YtgimcloadjjefabGreatDoor

/- A Walker in memory: its own cell, the row of what is left. -/
namespace Go.Proofs.YtgimcloadjjefabGreatDoor
open Go Go.RowKit Go.Lib
set_option linter.unusedVariables false

/-- The types of the cells that walkers write. -/
def TW (t : TypeId) : Prop := t = 84 ∨ t = 60
def isTW (o : Obj) : Prop := ∃ cs t fz, o = .cells cs t fz ∧ TW t
/-- What a Walker's step turns: its own cell and its row. -/
structure FrW (q g : Nat) (w w' : World) : Prop where
  os : w'.os = w.os
  tape : w'.tape = w.tape
  output : w'.output = w.output
  size : w.heap.size ≤ w'.heap.size
  kept : ∀ (k : Nat) (o : Obj), w.heap[k]? = some o → (¬ isTW o ∨ (k ≠ q ∧ k ≠ g)) → w'.heap[k]? = some o
theorem FrW.refl (q g : Nat) (w : World) : FrW q g w w := ⟨rfl, rfl, rfl, Nat.le_refl _, fun _ _ h _ => h⟩
theorem FrW.trans {q g : Nat} {a b c : World} (h : FrW q g a b) (k : FrW q g b c) : FrW q g a c :=
  ⟨k.os.trans h.os, k.tape.trans h.tape, k.output.trans h.output, Nat.le_trans h.size k.size, fun i o hi ho => k.kept i o (h.kept i o hi ho) ho⟩
theorem FrW.of_below {q g : Nat} {w w' : World} (h : Below w.heap.size w w') : FrW q g w w' :=
  ⟨h.os, h.tape, h.output, h.size, fun k o hk _ => (h.block k (Array.getElem?_eq_some_iff.1 hk).1).trans hk⟩
theorem FrW.it {q g B : Nat} {w w' : World} (h : FrW q g w w') (hq : B ≤ q) (hg : B ≤ g) : It7 TW B w w' :=
  ⟨h.os, h.tape, h.output, h.size, fun k o hk ho => h.kept k o hk (ho.elim (fun q => .inr (by omega)) (fun q => .inl q))⟩
theorem It7.lowB {T : TypeId → Prop} {B : Nat} {A A' : World} (h : It7 T B A A') (hB : B ≤ A.heap.size) : Below B A A' := (h.tr (Nat.le_refl _)).below hB
theorem FrW.below {q g B : Nat} {w w' : World} (h : FrW q g w w') (hq : B ≤ q) (hg : B ≤ g) (hB : B ≤ w.heap.size) : Below B w w' := (h.it hq hg).lowB hB
theorem It7.keepA {B : Nat} {w w' : World} (h : It7 TW B w w') : KeepA w w' := fun k cur hk => by
  rw [h.kept k _ hk (.inr (by rintro ⟨cs, t, fz, e, ht⟩; cases e; rcases ht with ht | ht <;> exact absurd ht (by decide))), hk]
theorem FrW.keepA {q g : Nat} {w w' : World} (h : FrW q g w w') : KeepA w w' := (h.it (Nat.zero_le _) (Nat.zero_le _)).keepA
theorem FrW.setQ {q g j : Nat} {w : World} {cs : Array Value} {fz : Nat × Nat} (h : w.heap[q]? = some (.cells cs 84 fz)) (u : Value) : FrW q g w (w.setCell ⟨q, j, none⟩ u) :=
  ⟨rfl, rfl, rfl, by simp [World.setCell], fun k o hk ho => by
    have hne : k ≠ q := by
      rintro rfl
      rw [h] at hk; cases hk
      rcases ho with ho | ho
      · exact ho ⟨_, _, _, rfl, .inl rfl⟩
      · exact ho.1 rfl
    exact (Below.heap_setCell _ _ _ _ hne).trans hk⟩
theorem FrW.setG {q g j : Nat} {w : World} {cs : Array Value} {fz : Nat × Nat} (h : w.heap[g]? = some (.cells cs 60 fz)) (u : Value) : FrW q g w (w.setCell ⟨g, j, none⟩ u) :=
  ⟨rfl, rfl, rfl, by simp [World.setCell], fun k o hk ho => by
    have hne : k ≠ g := by
      rintro rfl
      rw [h] at hk; cases hk
      rcases ho with ho | ho
      · exact ho ⟨_, _, _, rfl, .inr rfl⟩
      · exact ho.2 rfl
    exact (Below.heap_setCell _ _ _ _ hne).trans hk⟩

/-- A Walker that has R before it. -/
structure WkV (w : World) (B q g : Nat) (R : List Op5) : Prop where
  ne : q ≠ g
  lq : B ≤ q
  lg : B ≤ g
  st : ∃ p cap, w.heap[q]? = some (.cells #[.slice p R.length cap] 84 (0, 0)) ∧ R.length ≤ cap ∧
    (R ≠ [] → ∃ off cs, p = some ⟨g, off, none⟩ ∧ w.heap[g]? = some (.cells cs 60 (0, 0)) ∧ ∀ (j : Nat) (e : Op5), R[j]? = some e → ∃ s, cs[off + j]? = some (pieceQ e s) ∧ OwnA w B s e.A)
theorem WkV.same {w w' : World} {B q g : Nat} {R : List Op5} (h : WkV w B q g R) (hq : ∀ o, w.heap[q]? = some o → w'.heap[q]? = some o) (hg : ∀ o, w.heap[g]? = some o → w'.heap[g]? = some o) (hk : KeepA w w') : WkV w' B q g R := by
  obtain ⟨h1, h2, h3, p, cap, h4, h5, h6⟩ := h
  refine ⟨h1, h2, h3, p, cap, hq _ h4, h5, fun h0 => ?_⟩
  obtain ⟨off, cs, e, hgo, hr⟩ := h6 h0
  refine ⟨off, cs, e, hg _ hgo, fun j x hx => ?_⟩
  obtain ⟨s, a1, a2⟩ := hr j x hx
  exact ⟨s, a1, keepA_own a2 hk⟩
theorem WkV.below {w w' : World} {B q g : Nat} {R : List Op5} (h : WkV w B q g R) (b : Below w.heap.size w w') : WkV w' B q g R :=
  h.same (fun o ho => heap_below b ho) (fun o ho => heap_below b ho) (keepA_below b)
/-- Another Walker's step leaves it. -/
theorem WkV.other {w w' : World} {B q g q' g' : Nat} {R : List Op5} (h : WkV w B q g R) (f : FrW q' g' w w') (h1 : q ≠ q' ∧ q ≠ g') (h2 : g ≠ q' ∧ g ≠ g') : WkV w' B q g R :=
  h.same (fun o ho => f.kept _ _ ho (.inr h1)) (fun o ho => f.kept _ _ ho (.inr h2)) f.keepA
theorem WkV.lt {w : World} {B q g : Nat} {R : List Op5} (h : WkV w B q g R) : q < w.heap.size := by
  obtain ⟨_, _, _, p, cap, h4, _⟩ := h
  exact (Array.getElem?_eq_some_iff.1 h4).1
theorem WkV.read0 {w : World} {B q g : Nat} {R : List Op5} (h : WkV w B q g R) : ∃ p cap, w.cell? ⟨q, 0, none⟩ = some (.slice p R.length cap) ∧ w.frozen? ⟨q, 0, none⟩ = false ∧ R.length ≤ cap := by
  obtain ⟨_, _, _, p, cap, h4, h5, _⟩ := h
  exact ⟨p, cap, by rw [cell_of_heap h4]; rfl, frozen_of_heap h4 0, h5⟩
theorem WkV.read1 {w : World} {B q g : Nat} {x : Op5} {r : List Op5} (h : WkV w B q g (x :: r)) : ∃ off cap s, w.cell? ⟨q, 0, none⟩ = some (.slice (some ⟨g, off, none⟩) (r.length + 1) cap) ∧ w.frozen? ⟨q, 0, none⟩ = false ∧ r.length + 1 ≤ cap ∧ w.cell? ⟨g, off, none⟩ = some (pieceQ x s) ∧ w.frozen? ⟨g, off, none⟩ = false ∧ OwnA w B s x.A := by
  obtain ⟨h1, h2, h3, p, cap, h4, h5, h6⟩ := h
  obtain ⟨off, cs, rfl, hgo, hr⟩ := h6 (by simp)
  obtain ⟨s, a1, a2⟩ := hr 0 x rfl
  exact ⟨off, cap, s, by rw [cell_of_heap h4]; rfl, frozen_of_heap h4 0, by simpa using h5, by rw [cell_of_heap hgo]; exact a1, frozen_of_heap hgo off, a2⟩
theorem WkV.drop {w : World} {B q g off cap c' : Nat} {p' : Option Addr} {x : Op5} {r : List Op5} (h : WkV w B q g (x :: r)) (hc : w.cell? ⟨q, 0, none⟩ = some (.slice (some ⟨g, off, none⟩) (r.length + 1) cap)) (hl : r.length ≤ c') (hp : r ≠ [] → p' = some ⟨g, off + 1, none⟩) :
    WkV (w.setCell ⟨q, 0, none⟩ (.slice p' r.length c')) B q g r ∧ FrW q g w (w.setCell ⟨q, 0, none⟩ (.slice p' r.length c')) := by
  obtain ⟨h1, h2, h3, p, cap0, h4, h5, h6⟩ := h
  obtain ⟨off0, cs, rfl, hgo, hr⟩ := h6 (by simp)
  have e : w.cell? ⟨q, 0, none⟩ = some (.slice (some ⟨g, off0, none⟩) (r.length + 1) cap0) := by rw [cell_of_heap h4]; rfl
  rw [e] at hc
  simp only [Option.some.injEq, Value.slice.injEq, Addr.mk.injEq] at hc
  obtain ⟨⟨_, rfl, _⟩, _, rfl⟩ := hc
  have f := FrW.setQ (g := g) (j := 0) h4 (.slice p' r.length c')
  refine ⟨⟨h1, h2, h3, p', c', ?_, hl, fun h0 => ⟨off0 + 1, cs, hp h0, (Below.heap_setCell _ _ _ _ (Ne.symm h1)).trans hgo, fun j e he => ?_⟩⟩, f⟩
  · rw [heap_set_at w q 0 _ _ _ _ h4]; rfl
  · obtain ⟨s, a1, a2⟩ := hr (j + 1) e he
    exact ⟨s, by rw [show off0 + 1 + j = off0 + (j + 1) by omega]; exact a1, keepA_own a2 f.keepA⟩
theorem WkV.put {w : World} {B q g off cap : Nat} {x x' : Op5} {r : List Op5} {s' : Value} (h : WkV w B q g (x :: r)) (hc : w.cell? ⟨q, 0, none⟩ = some (.slice (some ⟨g, off, none⟩) (r.length + 1) cap)) (hs : OwnA w B s' x'.A) :
    WkV (w.setCell ⟨g, off, none⟩ (pieceQ x' s')) B q g (x' :: r) ∧ FrW q g w (w.setCell ⟨g, off, none⟩ (pieceQ x' s')) := by
  obtain ⟨h1, h2, h3, p, cap0, h4, h5, h6⟩ := h
  obtain ⟨off0, cs, rfl, hgo, hr⟩ := h6 (by simp)
  have e : w.cell? ⟨q, 0, none⟩ = some (.slice (some ⟨g, off0, none⟩) (r.length + 1) cap0) := by rw [cell_of_heap h4]; rfl
  rw [e] at hc
  simp only [Option.some.injEq, Value.slice.injEq, Addr.mk.injEq] at hc
  obtain ⟨⟨_, rfl, _⟩, _, rfl⟩ := hc
  have f := FrW.setG (q := q) (j := off0) hgo (pieceQ x' s')
  have h00 : off0 < cs.size := by
    obtain ⟨s, a1, _⟩ := hr 0 x rfl
    exact (Array.getElem?_eq_some_iff.1 a1).1
  refine ⟨⟨h1, h2, h3, some ⟨g, off0, none⟩, cap0, (Below.heap_setCell _ _ _ _ h1).trans h4, h5, fun _ => ⟨off0, _, rfl, heap_set_at w g off0 _ _ _ _ hgo, fun j e he => ?_⟩⟩, f⟩
  cases j with
  | zero =>
    obtain rfl : x' = e := by simpa using he
    exact ⟨s', by simp [h00], keepA_own hs f.keepA⟩
  | succ j =>
    obtain ⟨s, a1, a2⟩ := hr (j + 1) e he
    exact ⟨s, by rw [Array.getElem?_setIfInBounds_ne (by omega)]; exact a1, keepA_own a2 f.keepA⟩
/-- A new one. -/
theorem wk_new {w : World} {B : Nat} {v : Value} {P : List Value} {E : List Op5} (h : OwnI w B v P) (hp : PieD w B P E) (hB : B ≤ w.heap.size) : ∃ g, WkV (w.alloc (.cells #[v] 84)) B w.heap.size g E ∧ (E ≠ [] → g < w.heap.size) := by
  have hl := forall2_len hp
  have hb : Below w.heap.size w (w.alloc (.cells #[v] 84)) := (Below.refl _ _).alloc (Nat.le_refl _) _
  have hn : (w.alloc (.cells #[v] 84)).heap[w.heap.size]? = some (.cells #[v] 84 (0, 0)) := heap_alloc_new w _
  rcases h.2 with ⟨hv, h0⟩ | ⟨g, cap, cur, hv, hg, hgg, hc, _, hcs, ht⟩
  · have hE : E = [] := List.eq_nil_of_length_eq_zero (by omega)
    subst hE
    refine ⟨w.heap.size + 1, ⟨by omega, hB, by omega, none, 0, ?_, Nat.zero_le _, fun h => absurd rfl h⟩, fun h => absurd rfl h⟩
    rw [hn, hv]; rfl
  · have hgl : g < w.heap.size := (Array.getElem?_eq_some_iff.1 hgg).1
    refine ⟨g, ⟨by omega, hB, hg, some ⟨g, 0, none⟩, cap, by rw [hn, hv, hl], by omega, fun _ => ⟨0, cur, rfl, heap_below hb hgg, fun j e he => ?_⟩⟩, fun _ => hgl⟩
    obtain ⟨x, hx, s, rfl, hs⟩ : ∃ x, P[j]? = some x ∧ ∃ s, x = pieceQ e s ∧ OwnA w B s e.A := by
      have hj : j < P.length := by rw [hl]; exact (List.getElem?_eq_some_iff.1 he).1
      obtain ⟨e', s, he', hx, hs⟩ := oneI hp (List.getElem?_eq_getElem hj)
      obtain rfl : e' = e := Option.some.inj (he'.symm.trans he)
      exact ⟨_, List.getElem?_eq_getElem hj, s, hx, hs⟩
    refine ⟨s, ?_, owns_below hs hb⟩
    rw [Nat.zero_add, ← Array.getElem?_toList]
    rw [← ht, Nat.mul_one, List.getElem?_take] at hx
    split at hx
    · exact hx
    · cases hx
end Go.Proofs.YtgimcloadjjefabGreatDoor

/- Calls of a piece's methods through the interface; the Walker's small calls. -/
namespace Go.Proofs.YtgimcloadjjefabGreatDoor
open Go Go.RowKit Go.Lib
set_option linter.unusedVariables false

theorem len5_1 {e : Op5} (hk : e.k = 1) : len5 e = ((scs e.t.data.toList).length : Int) := by
  unfold len5 lenO; rw [if_pos (Or.inl hk), if_pos hk]
theorem len5_2 {e : Op5} (hk : e.k = 2) : len5 e = 1 := by
  unfold len5 lenO; rw [if_pos (Or.inr hk), if_neg (by omega)]; rfl
theorem len5_3 {e : Op5} (hk : e.k = 3 ∨ e.k = 4) : len5 e = e.c := by
  unfold len5; rw [if_neg (by omega)]
theorem wpList_opP {w : World} {ops : Array Oper} {rest : List Oper} {o : Oper} {a : Act} {Q : Exit → Act → World → Prop} (hgd : o.guard = none) (x : Operand)
    (ho : o.op = .call { callee := .invoke x "Op", args := #[], argTypes := #[] }) (e : Op5) (s : Value) (hx : a.eval x = pieceQ e s) (hg : opE e = 0) (hR : RN w s e.A) (hl : e.A.length ≤ 2097152)
    (h : ∀ v' w', OwnA w' w.heap.size v' e.A → Below w.heap.size w w' → wpList Tryz.prog ops Q rest (a.put o.dst (opV e v')) w') : wpList Tryz.prog ops Q (o :: rest) a w := by
  refine wpList_plain hgd fun K hK => ?_
  unfold Oper.wp
  rcases kinds_of hg with hk | hk | hk | hk
  · rw [pieceQ_1 hk] at hx
    have hrun : (execOp a.eval o).run Tryz.prog w = .ok (.enter 137 #[.agg #[s, .string e.t, .int .i64 (scs e.t.data.toList).length]]) w := by
      simp only [execOp, ho, resolve, hx]
      kernel_rfl
    rw [hrun, Oper.upon_enter]
    refine (opQ_1 hg hk s w hR hl).mono fun r w' hh => ?_
    obtain ⟨v', rfl, h1, h2⟩ := hh
    exact hK _ _ (h v' w' h1 h2)
  · rw [pieceQ_2 hk] at hx
    have hrun : (execOp a.eval o).run Tryz.prog w = .ok (.enter 139 #[.agg #[s, .string e.t, valP e.v]]) w := by
      simp only [execOp, ho, resolve, hx]
      kernel_rfl
    rw [hrun, Oper.upon_enter]
    refine (opQ_2 hg hk s w hR hl).mono fun r w' hh => ?_
    obtain ⟨v', rfl, h1, h2⟩ := hh
    exact hK _ _ (h v' w' h1 h2)
  · rw [pieceQ_3 hk] at hx
    have hrun : (execOp a.eval o).run Tryz.prog w = .ok (.enter 133 #[.agg #[s, .int .i64 e.c]]) w := by
      simp only [execOp, ho, resolve, hx]
      kernel_rfl
    rw [hrun, Oper.upon_enter]
    refine (opQ_3 hg hk s w hR hl).mono fun r w' hh => ?_
    obtain ⟨v', rfl, h1, h2⟩ := hh
    exact hK _ _ (h v' w' h1 h2)
  · rw [pieceQ_4 hk] at hx
    have hrun : (execOp a.eval o).run Tryz.prog w = .ok (.enter 135 #[.agg #[.int .i64 e.c]]) w := by
      simp only [execOp, ho, resolve, hx]
      kernel_rfl
    rw [hrun, Oper.upon_enter]
    refine (opQ_4 hg hk w).mono fun r w' hh => ?_
    obtain ⟨v', rfl, h1, h2⟩ := hh
    exact hK _ _ (h v' w' h1 h2)
theorem wpList_lenP {w : World} {ops : Array Oper} {rest : List Oper} {o : Oper} {a : Act} {Q : Exit → Act → World → Prop} (hgd : o.guard = none) (x : Operand)
    (ho : o.op = .call { callee := .invoke x "Len", args := #[], argTypes := #[] }) (e : Op5) (s : Value) (hx : a.eval x = pieceQ e s) (hg : opE e = 0)
    (h : ∀ w', Below w.heap.size w w' → wpList Tryz.prog ops Q rest (a.put o.dst (.int .i64 (len5 e))) w') : wpList Tryz.prog ops Q (o :: rest) a w := by
  refine wpList_plain hgd fun K hK => ?_
  unfold Oper.wp
  rcases kinds_of hg with hk | hk | hk | hk
  · rw [pieceQ_1 hk] at hx
    rw [len5_1 hk] at h
    have hrun : (execOp a.eval o).run Tryz.prog w = .ok (.enter 136 #[.agg #[s, .string e.t, .int .i64 (scs e.t.data.toList).length]]) w := by
      simp only [execOp, ho, resolve, hx]
      kernel_rfl
    rw [hrun, Oper.upon_enter]
    refine (ilen_any s e.t _ w).mono fun r w' hh => ?_
    obtain ⟨rfl, h2⟩ := hh
    exact hK _ _ (h w' h2)
  · rw [pieceQ_2 hk] at hx
    rw [len5_2 hk] at h
    have hrun : (execOp a.eval o).run Tryz.prog w = .ok (.enter 138 #[.agg #[s, .string e.t, valP e.v]]) w := by
      simp only [execOp, ho, resolve, hx]
      kernel_rfl
    rw [hrun, Oper.upon_enter]
    refine (elen_any _ s e.t w).mono fun r w' hh => ?_
    obtain ⟨rfl, h2⟩ := hh
    exact hK _ _ (h w' h2)
  · rw [pieceQ_3 hk] at hx
    rw [len5_3 (.inl hk)] at h
    have hrun : (execOp a.eval o).run Tryz.prog w = .ok (.enter 132 #[.agg #[s, .int .i64 e.c]]) w := by
      simp only [execOp, ho, resolve, hx]
      kernel_rfl
    rw [hrun, Oper.upon_enter]
    refine (rlen_any s _ w).mono fun r w' hh => ?_
    obtain ⟨rfl, h2⟩ := hh
    exact hK _ _ (h w' h2)
  · rw [pieceQ_4 hk] at hx
    rw [len5_3 (.inr hk)] at h
    have hrun : (execOp a.eval o).run Tryz.prog w = .ok (.enter 134 #[.agg #[.int .i64 e.c]]) w := by
      simp only [execOp, ho, resolve, hx]
      kernel_rfl
    rw [hrun, Oper.upon_enter]
    refine (dlen_any _ w).mono fun r w' hh => ?_
    obtain ⟨rfl, h2⟩ := hh
    exact hK _ _ (h w' h2)

set_option maxHeartbeats 2000000 in
set_option maxRecDepth 100000 in
theorem newW_any {B1 B2 : Nat} (v : Value) (E : List Op5) (w : World) (h : DelV w B1 B2 v E) (hg : ∀ o ∈ E, opE o = 0) (hA : ∀ o ∈ E, o.A.length ≤ 2097152) (hl : E.length ≤ 4194304) :
    Calls Tryz.prog 26 #[v] w fun r w' => ∃ q g, r = .returned (.pointer (some ⟨q, 0, none⟩)) ∧ WkV w' w.heap.size q g E ∧ (E ≠ [] → g < w'.heap.size) ∧ Below w.heap.size w w' := by
  have c := pieces_any v E w h hg hA hl
  clear h hg hA hl
  go_enter Tryz.func26, Tryz.ntmps26
  go_wp2_with fail
  refine c.mono ?_; rintro r w2 ⟨v', rfl, ⟨P, own, pie⟩, b2⟩
  obtain ⟨g, hw, hgl⟩ := wk_new own pie b2.size
  have HGL : Hid (E ≠ [] → g < (w2.alloc (.cells #[v'] 84)).heap.size) := fun h => by rw [World.size_alloc]; have := hgl h; omega
  have HW : Hid (WkV (w2.alloc (.cells #[v'] 84)) w.heap.size w2.heap.size g E) := hw
  have b3 := b2.trans (((Below.refl _ w2).alloc (Nat.le_refl _) (.cells #[v'] 84)).mono b2.size)
  obtain ⟨p, n, rfl⟩ := own_slice own
  clear c own pie hw b2 hgl
  go_wp2
  go_ret
  exact ⟨_, g, rfl, HW.out, HGL.out, b3⟩
theorem doneW_any {B q g : Nat} {R : List Op5} (w : World) (h : WkV w B q g R) :
    Calls Tryz.prog 61 #[.pointer (some ⟨q, 0, none⟩)] w fun r w' => r = .returned (.bool (decide (R = []))) ∧ Below w.heap.size w w' := by
  obtain ⟨p, cap, c0, f0, hc⟩ := h.read0
  cases R with
  | nil =>
    clear h
    have e0 : ((0 : Int) == 0) = true := rfl
    go_enter Tryz.func61, Tryz.ntmps61
    go_wp2
    go_ret
    exact ⟨rfl, Below.refl _ _⟩
  | cons x r =>
    rw [List.length_cons] at c0
    have e0 : (((r.length + 1 : Nat) : Int) == 0) = false := beq_eq_false_iff_ne.2 (by omega)
    obtain ⟨n, hn⟩ : ∃ n, r.length + 1 = n := ⟨_, rfl⟩
    rw [hn] at c0 e0
    clear h hn hc
    go_enter Tryz.func61, Tryz.ntmps61
    go_wp2
    go_ret
    exact ⟨rfl, Below.refl _ _⟩
end Go.Proofs.YtgimcloadjjefabGreatDoor

/- measure: gathered: pieces of deltas put into one. -/
namespace Go.Proofs.YtgimcloadjjefabGreatDoor
open Go Go.RowKit Go.Lib
set_option linter.unusedVariables false

/-- Do the lengths of all together keep the bound? -/
def Fits8 (E : List Op5) : Prop := sumB E ≤ 1099511627776 ∧ sumR E ≤ 1099511627776
theorem fits_front {E F : List Op5} (hw : ∀ o ∈ F, Wel o) (h : Fits8 (E ++ F)) : Fits8 E := by
  have := sums_nn hw
  unfold Fits8 at h ⊢
  rw [sumB_append, sumR_append] at h
  omega
set_option maxHeartbeats 4000000 in
set_option maxRecDepth 100000 in
theorem gath8_any {I : List Nat} {a : Nat → Addr} {B1 B2 : Nat} (v : Value) (PL : List Value) (E : List Op5) (w : World) (hI : ∀ i ∈ IxO, i ∈ I) (hS : Std I a w) (hv : OwnI w B1 v PL) (hp : PieD w B2 PL E) (hg : ∀ o ∈ E, opE o = 0) (hF : ∀ o ∈ E, FitA o) (hl : E.length ≤ 2097152) (ht : txtS E ≤ 8388608) :
    Calls Tryz.prog 28 #[v] w fun r w' => ∃ dv er, r = .returned (.tuple #[dv, er]) ∧ (Fits8 E → er = .nilIface ∧ DelV w' w.heap.size w.heap.size dv (canonL E)) ∧ (¬ Fits8 E → er = errV a 10 ∧ dv = .pointer none) ∧ Below w.heap.size w w' := by
  obtain ⟨p, cap, rfl, hrd⟩ := del_read (q := 0) hv hp
  have cN := new_any (B := w.heap.size) (D := fun k => k < w.heap.size) w (Nat.le_refl _) (by omega)
  have HR : Hid (∀ k, k < E.length → ∃ ga e s, p = some ⟨ga, 0, none⟩ ∧ E[k]? = some e ∧ w.cell? ⟨ga, k, none⟩ = some (pieceQ e s) ∧ OwnA w B2 s e.A) := hrd
  have HF : Hid ((∀ o ∈ E, opE o = 0) ∧ (∀ o ∈ E, FitA o) ∧ txtS E ≤ 8388608 ∧ ∀ o ∈ E, Wel o) := ⟨hg, hF, ht, fun o ho => wel_of (hg o ho)⟩
  have hfit := fitA_all hF ht
  have HK : Hid (∀ W (k : Nat) e v5, Below w.heap.size w W → E[k]? = some e → RN W v5 e.A → (∃ p c, v5 = .slice p e.A.length c) → ∀ g F, Gath W w.heap.size (fun k => k < w.heap.size) g F → (OkE F → (1099511627776 < sumB F + baseO e ∨ 1099511627776 < sumR F + resO e) → Calls Tryz.prog 38 #[.pointer (some ⟨g, 0, none⟩), opV e v5] W fun r w' => r = .returned (errV a 10) ∧ Below W.heap.size W w') ∧ (OkE (F ++ [e]) → Calls Tryz.prog 38 #[.pointer (some ⟨g, 0, none⟩), opV e v5] W fun r w' => r = .returned .nilIface ∧ Gath w' w.heap.size (fun k => k < w.heap.size) g (F ++ [e]) ∧ FrB w.heap.size (fun k => k < w.heap.size) W w')) := fun W k e v5 hW he hR ⟨p, c, e5⟩ g F hG => by
    subst e5
    have fe := hfit e (List.mem_of_getElem? he)
    exact ⟨fun h0 hov => pushB_long e _ _ _ W hI (hS.below hW) hR fe (hg e (List.mem_of_getElem? he)) hG h0 hov, fun hO => pushB_ok e _ _ _ W hI (hS.below hW) hR fe hG hO (fun k hk => Nat.lt_of_lt_of_le hk hW.size)⟩
  obtain ⟨n, hn⟩ : ∃ n, E.length = n := ⟨_, rfl⟩
  have HN : Hid (E.length = n) := hn
  obtain ⟨g, hgs⟩ : ∃ g, w.heap.size = g := ⟨_, rfl⟩
  have HGS : Hid (w.heap.size = g) := hgs
  have cN' : Calls Tryz.prog 32 #[] w fun e w' => e = .returned (.pointer (some ⟨g, 0, none⟩)) ∧ Gath w' w.heap.size (fun k => k < w.heap.size) g [] ∧ Below w.heap.size w w' := by rw [← hgs]; exact cN
  rw [hn] at hl HR ⊢
  clear hn hv hp hg hF hS ht cN hgs hrd hfit
  go_enter Tryz.func28, Tryz.ntmps28
  go_wp2_with fail
  refine cN'.mono ?_; rintro r w1 ⟨rfl, hg1, hb1⟩
  have HG1 : Hid (Gath w1 w.heap.size (fun k => k < w.heap.size) g []) := hg1
  clear cN' hg1
  go_wp2
  go_loopw [11] (fun i wr => ∃ (k : Nat), k ≤ n ∧ i = .int .i64 k ∧ Hid (Gath wr w.heap.size (fun k => k < w.heap.size) g (E.take k)) ∧ Hid (OkE (E.take k)) ∧ Below w.heap.size w wr) (fun i _ => n - (RowKit.intOf i).toNat)
  case atStart => exact ⟨0, Nat.zero_le _, rfl, by rw [List.take_zero]; exact HG1, by rw [List.take_zero]; exact OkE.nil, hb1⟩
  case round =>
    clear HG1 hb1
    obtain ⟨k, hk, rfl, HG, HO, hbw⟩ := hrel
    by_cases hlt : k < n
    · have hltI : (k : Int) < n := by omega
      obtain ⟨ga, e, s, rfl, he, hc, hs⟩ := HR.out k hlt
      have c2 := (hbw.cell (lt_of_cell hc)).trans hc
      have hR2 := own_RN (owns_below hs hbw)
      have hmem := List.mem_of_getElem? he
      have hge := HF.out.1 e hmem
      have hA2 : e.A.length ≤ 2097152 := by have := (HF.out.2.1 e hmem).n; omega
      obtain ⟨u, x, hux⟩ := pieceQ_if e s
      have HU : Hid (pieceQ e s = .iface u x) := hux
      have HT : Hid (E.take (k + 1) = E.take k ++ [e] ∧ E[k]? = some e) := by refine ⟨?_, he⟩; rw [List.take_add_one, he]; rfl
      rw [hux] at c2
      by_cases hov : sumB (E.take k) + baseO e ≤ 1099511627776 ∧ sumR (E.take k) + resO e ≤ 1099511627776
      · have HO2 : Hid (OkE (E.take (k + 1))) := by
          show OkE _
          have htk := txtS_take E (k + 1)
          rw [HT.out.1] at htk ⊢
          exact okE_snoc HO.out (refE_zero.2 ⟨hge, hov⟩) (HF.out.2.1 e hmem) (Nat.le_trans htk HF.out.2.2.1) (by simp; omega)
        have HP : Hid (∀ v5 w5, OwnA w5 wr.heap.size v5 e.A → Below wr.heap.size wr w5 → Calls Tryz.prog 38 #[.pointer (some ⟨g, 0, none⟩), opV e v5] w5 fun r w' => r = .returned .nilIface ∧ Hid (Gath w' w.heap.size (fun k => k < w.heap.size) g (E.take (k + 1))) ∧ Below w.heap.size w w') := fun v5 w5 o5 b5 => by
          have b := hbw.trans (b5.mono hbw.size)
          have := (HK.out w5 k e v5 b HT.out.2 (own_RN o5) (own_slice o5) g (E.take k) (BldE.below HG.out b5)).2 (by rw [← HT.out.1]; exact HO2.out)
          rw [← HT.out.1] at this
          exact this.mono fun r w' ⟨h1, h2, h3⟩ => ⟨h1, h2, b.trans h3.below⟩
        clear HG HO he hc hs hux HT hov hmem hbw
        go_wp2_with (refine wpList_opP rfl (.tmp 16) rfl e s HU.out.symm hge hR2 hA2 ?_; intro v5 w5 own5 hb5)
        refine (HP.out v5 w5 own5 hb5).mono ?_; rintro r w6 ⟨rfl, HG6, b6⟩
        clear HP own5 hb5 c2
        go_wp2
        go_roundw
        case rel => exact ⟨k + 1, by omega, by go_num, HG6, HO2, b6⟩
        case measure => simp [RowKit.intOf]; omega
      · have HB : Hid (¬ Fits8 E) := fun h => hov (by
          have h2 := fits_front (E := E.take (k + 1)) (F := E.drop (k + 1)) (fun o ho => HF.out.2.2.2 o (List.mem_of_mem_drop ho)) (by rw [List.take_append_drop]; exact h)
          unfold Fits8 at h2
          rw [HT.out.1, sumB_append, sumB_one, sumR_append, sumR_one] at h2
          exact h2)
        have HP : Hid (∀ v5 w5, OwnA w5 wr.heap.size v5 e.A → Below wr.heap.size wr w5 → Calls Tryz.prog 38 #[.pointer (some ⟨g, 0, none⟩), opV e v5] w5 fun r w' => r = .returned (errV a 10) ∧ Below w.heap.size w w') := fun v5 w5 o5 b5 => by
          have b := hbw.trans (b5.mono hbw.size)
          have := (HK.out w5 k e v5 b HT.out.2 (own_RN o5) (own_slice o5) g (E.take k) (BldE.below HG.out b5)).1 HO.out (by omega)
          exact this.mono fun r w' ⟨h1, h2⟩ => ⟨h1, b.trans (h2.mono b.size)⟩
        clear HG HO he hc hs hux HT hov hmem hbw
        go_wp2_with (refine wpList_opP rfl (.tmp 16) rfl e s HU.out.symm hge hR2 hA2 ?_; intro v5 w5 own5 hb5)
        refine (HP.out v5 w5 own5 hb5).mono ?_; rintro r w6 ⟨rfl, b6⟩
        clear HP own5 hb5 c2
        go_wp2
        go_ret2
        exact ⟨.pointer none, errV a 10, rfl, fun h => absurd h HB.out, fun _ => ⟨rfl, rfl⟩, b6⟩
    · have hltI : ¬ (k : Int) < n := by omega
      have hE : E.take k = E := List.take_of_length_le (by rw [HN.out]; omega)
      rw [hE] at HG HO
      have HB : Hid (Fits8 E) := ⟨HO.out.base, HO.out.res⟩
      have cD := delta_any wr HG.out HO.out
      clear hE HG HO
      go_wp2_with fail
      refine cD.mono ?_; rintro r w5 ⟨dv, rfl, h5, hb5⟩
      have H5 : Hid (DelV w5 w.heap.size w.heap.size dv (canonL E)) := by
        obtain ⟨q, pv, PL, x1, x2, x3, x4, x5⟩ := h5
        exact ⟨q, pv, PL, x1, Nat.le_trans hbw.size x2, x3, own_weaken x4 hbw.size, x5⟩
      have b5 := hbw.trans (hb5.mono hbw.size)
      clear cD h5 hb5
      go_wp2
      go_ret2
      exact ⟨dv, .nilIface, rfl, fun _ => ⟨rfl, H5.out⟩, fun h => absurd HB.out h, b5⟩
end Go.Proofs.YtgimcloadjjefabGreatDoor

/- What the reference of layer 1 answers: Scalar, Encode (and what its decoder needs: places, numbers, owned rows of numbers). -/
namespace Go.Proofs.YtgimcloadjjefabGreatDoor
open Go Go.RowKit Go.Lib
set_option linter.unusedVariables false


def isScal (z : Int) : Prop := (0 ≤ z ∧ z < 55296) ∨ (57344 ≤ z ∧ z ≤ 1114111)

def ints (rs : List Nat) : List Int := rs.map fun (r : Nat) => ((r : Nat) : Int)
theorem ints_length (rs : List Nat) : (ints rs).length = rs.length := by simp [ints]
def cells32 (zs : List Int) : List Value := zs.map fun z => .int .i32 z

/-- A slice of numbers that lies in memory made since B. -/
abbrev Own32 (B : Nat) (w : World) (v : Value) (zs : List Int) : Prop := w.ownsRow B 21 1 v zs.length (cells32 zs)

theorem info32 : ∃ i z, Tryz.prog.info? 21 = some i ∧ i.zero = some z ∧ i.size = 1 ∧ i.bytes = 4 ∧ z.cells.size = 1 := by
  obtain ⟨i, hi, h⟩ := Option.map_eq_some_iff.1 (show (Tryz.prog.info? 21).map (fun i => (i.zero, i.size, i.bytes)) = some (some (.int .i32 0), 1, 4) by kernel_rfl)
  simp only [Prod.mk.injEq] at h
  exact ⟨i, _, hi, h.1, h.2.1, h.2.2, rfl⟩

theorem ref_scal_yes (z : Int) (h : isScal z) (w : World) : Calls Tryz.prog 102 #[.int .i32 z] w fun e w' => e = .returned (.bool true) ∧ w' = w := by
  rcases h with ⟨h1, h2⟩ | ⟨h1, h2⟩
  · have f1 : decide (z ≥ 0) = true := decide_eq_true h1
    have f2 : decide (z < 55296) = true := decide_eq_true h2
    go_enter Tryz.func102, Tryz.ntmps102
    go_wp2
    go_ret
    exact ⟨rfl, rfl⟩
  · have f1 : decide (z ≥ 0) = true := decide_eq_true (by omega)
    have f2 : decide (z < 55296) = false := decide_eq_false (by omega)
    have f3 : decide (z ≥ 57344) = true := decide_eq_true h1
    have f4 : decide (z ≤ 1114111) = true := decide_eq_true h2
    go_enter Tryz.func102, Tryz.ntmps102
    go_wp2
    go_ret
    exact ⟨rfl, rfl⟩

theorem ref_scal_no (z : Int) (h : ¬ isScal z) (w : World) : Calls Tryz.prog 102 #[.int .i32 z] w fun e w' => e = .returned (.bool false) ∧ w' = w := by
  unfold isScal at h
  by_cases h0 : z < 0
  · have f1 : decide (z ≥ 0) = false := decide_eq_false (by omega)
    have f3 : decide (z ≥ 57344) = false := decide_eq_false (by omega)
    clear h
    go_enter Tryz.func102, Tryz.ntmps102
    go_wp2
    go_ret
    exact ⟨rfl, rfl⟩
  by_cases h1 : z < 57344
  · have f1 : decide (z ≥ 0) = true := decide_eq_true (by omega)
    have f2 : decide (z < 55296) = false := decide_eq_false (by omega)
    have f3 : decide (z ≥ 57344) = false := decide_eq_false (by omega)
    clear h
    go_enter Tryz.func102, Tryz.ntmps102
    go_wp2
    go_ret
    exact ⟨rfl, rfl⟩
  · have f1 : decide (z ≥ 0) = true := decide_eq_true (by omega)
    have f2 : decide (z < 55296) = false := decide_eq_false (by omega)
    have f3 : decide (z ≥ 57344) = true := decide_eq_true (by omega)
    have f4 : decide (z ≤ 1114111) = false := decide_eq_false (by omega)
    clear h
    go_enter Tryz.func102, Tryz.ntmps102
    go_wp2
    go_ret
    exact ⟨rfl, rfl⟩

def b8 (z : Int) : UInt8 := z.toNat.toUInt8

theorem conv1 (a : Int) (w : World) : (convert 93 9 (.slice (some ⟨w.heap.size, 0, none⟩) 1 1)).run Tryz.prog (w.alloc (.cells #[.int .u8 a] 5)) = .ok (.string ⟨#[b8 a]⟩) (w.alloc (.cells #[.int .u8 a] 5)) := by
  have := run_convert_bytes_arg (P := Tryz.prog) (w.alloc (.cells #[.int .u8 a] 5)) 93 5 Tryz.underlying93 Tryz.underlying5 w.heap.size 0 1 1 [a] rfl (fun i hi => by
    match i, hi with
    | 0, _ => simp) 9 Tryz.underlying9
  exact this
theorem conv2 (a b : Int) (w : World) : (convert 93 9 (.slice (some ⟨w.heap.size, 0, none⟩) 2 2)).run Tryz.prog (w.alloc (.cells #[.int .u8 a, .int .u8 b] 5)) = .ok (.string ⟨#[b8 a, b8 b]⟩) (w.alloc (.cells #[.int .u8 a, .int .u8 b] 5)) := by
  have := run_convert_bytes_arg (P := Tryz.prog) (w.alloc (.cells #[.int .u8 a, .int .u8 b] 5)) 93 5 Tryz.underlying93 Tryz.underlying5 w.heap.size 0 2 2 [a, b] rfl (fun i hi => by
    match i, hi with
    | 0, _ => simp
    | 1, _ => simp) 9 Tryz.underlying9
  exact this
theorem conv3 (a b c : Int) (w : World) : (convert 93 9 (.slice (some ⟨w.heap.size, 0, none⟩) 3 3)).run Tryz.prog (w.alloc (.cells #[.int .u8 a, .int .u8 b, .int .u8 c] 5)) = .ok (.string ⟨#[b8 a, b8 b, b8 c]⟩) (w.alloc (.cells #[.int .u8 a, .int .u8 b, .int .u8 c] 5)) := by
  have := run_convert_bytes_arg (P := Tryz.prog) (w.alloc (.cells #[.int .u8 a, .int .u8 b, .int .u8 c] 5)) 93 5 Tryz.underlying93 Tryz.underlying5 w.heap.size 0 3 3 [a, b, c] rfl (fun i hi => by
    match i, hi with
    | 0, _ => simp
    | 1, _ => simp
    | 2, _ => simp) 9 Tryz.underlying9
  exact this
theorem conv4 (a b c d : Int) (w : World) : (convert 93 9 (.slice (some ⟨w.heap.size, 0, none⟩) 4 4)).run Tryz.prog (w.alloc (.cells #[.int .u8 a, .int .u8 b, .int .u8 c, .int .u8 d] 5)) = .ok (.string ⟨#[b8 a, b8 b, b8 c, b8 d]⟩) (w.alloc (.cells #[.int .u8 a, .int .u8 b, .int .u8 c, .int .u8 d] 5)) := by
  have := run_convert_bytes_arg (P := Tryz.prog) (w.alloc (.cells #[.int .u8 a, .int .u8 b, .int .u8 c, .int .u8 d] 5)) 93 5 Tryz.underlying93 Tryz.underlying5 w.heap.size 0 4 4 [a, b, c, d] rfl (fun i hi => by
    match i, hi with
    | 0, _ => simp
    | 1, _ => simp
    | 2, _ => simp
    | 3, _ => simp) 9 Tryz.underlying9
  exact this

theorem ref_encode (r : Nat) (h : scal r) (w : World) : Calls Tryz.prog 103 #[.int .i32 r] w fun e w' => e = .returned (.string ⟨(enc r).toArray⟩) ∧ Below w.heap.size w w' := by
  have hr : (r : Int) ≤ 1114111 := by unfold scal at h; omega
  have g1 := conv1
  have g2 := conv2
  have g3 := conv3
  have g4 := conv4
  by_cases h1 : r < 128
  · have f1 : (r : Int) < 128 := by omega
    have HE : Hid (enc r = _) := enc_one h1
    clear h g2 g3 g4
    go_enter Tryz.func103, Tryz.ntmps103
    go_wp2
    go_ret
    rw [HE.out]
    exact ⟨rfl, (Below.refl _ _).alloc (Nat.le_refl _) _⟩
  by_cases h2 : r < 2048
  · have f1 : ¬ (r : Int) < 128 := by omega
    have f2 : (r : Int) < 2048 := by omega
    have HE : Hid (enc r = _) := enc_two (by omega) h2
    clear h g1 g3 g4
    go_enter Tryz.func103, Tryz.ntmps103
    go_wp2
    go_ret
    rw [HE.out]
    exact ⟨rfl, (Below.refl _ _).alloc (Nat.le_refl _) _⟩
  by_cases h3 : r < 65536
  · have f1 : ¬ (r : Int) < 128 := by omega
    have f2 : ¬ (r : Int) < 2048 := by omega
    have f3 : (r : Int) < 65536 := by omega
    have HE : Hid (enc r = _) := enc_three (by omega) h3 h
    clear h g1 g2 g4
    go_enter Tryz.func103, Tryz.ntmps103
    go_wp2
    go_ret
    rw [HE.out]
    exact ⟨rfl, (Below.refl _ _).alloc (Nat.le_refl _) _⟩
  · have f1 : ¬ (r : Int) < 128 := by omega
    have f2 : ¬ (r : Int) < 2048 := by omega
    have f3 : ¬ (r : Int) < 65536 := by omega
    have HE : Hid (enc r = _) := enc_four (by omega) (by omega)
    clear h g1 g2 g3
    go_enter Tryz.func103, Tryz.ntmps103
    go_wp2
    go_ret
    rw [HE.out]
    exact ⟨rfl, (Below.refl _ _).alloc (Nat.le_refl _) _⟩

end Go.Proofs.YtgimcloadjjefabGreatDoor

/- What the reference's first answers: the scalar with whose encoding a text begins at a place. -/
namespace Go.Proofs.YtgimcloadjjefabGreatDoor
open Go Go.RowKit Go.Lib Go.PlainAid Go.Sort
set_option linter.unusedVariables false

theorem ne_list {a b : ByteArray} (h : ¬ a = b) : (a.toList == b.toList) = false := by
  rw [toList_data, toList_data]
  refine beq_eq_false_iff_ne.2 fun e => h ?_
  apply ByteArray.ext
  exact Array.ext' e

set_option maxHeartbeats 1000000 in
set_option maxRecDepth 100000 in
theorem rf1_non (s : ByteArray) (k : Nat) (w : World) (hs : s.size ≤ 140737488351232) (hk : k < s.size) (h0 : bt s k < 192) (hI : k + 1 ≤ s.size) (Z : Int) (hz : bt s k = Z) (hn : ¬ isScal Z) :
    Calls Tryz.prog 90 #[.string s, .int .i64 k] w fun e w' => e = .returned (.tuple #[.int .i32 0, .int .i64 0]) ∧ Below w.heap.size w w' := by
  have q0 := bt_nonneg s k
  have r0 := bt_le s k
  have c0 : ¬ bt s k ≥ 240 := by omega
  have c1 : ¬ bt s k ≥ 224 := by omega
  have c2 : ¬ bt s k ≥ 192 := by omega
  have hI' : (k : Int) + 1 ≤ s.size := by omega
  unfold isScal at hn
  exfalso; omega

set_option maxHeartbeats 1000000 in
set_option maxRecDepth 100000 in
theorem rf1_same (s : ByteArray) (k : Nat) (w : World) (hs : s.size ≤ 140737488351232) (hk : k < s.size) (h0 : bt s k < 192) (hI : k + 1 ≤ s.size) (R : Nat) (hr : scal R) (Z : Int) (hZ : Z = R) (hz : bt s k = Z) (hX : s.extract k (k + 1) = ⟨(enc R).toArray⟩) :
    Calls Tryz.prog 90 #[.string s, .int .i64 k] w fun e w' => e = .returned (.tuple #[.int .i32 Z, .int .i64 1]) ∧ Below w.heap.size w w' := by
  have hb := get_bt s
  have q0 := bt_nonneg s k
  have r0 := bt_le s k
  have c0 : ¬ bt s k ≥ 240 := by omega
  have c1 : ¬ bt s k ≥ 224 := by omega
  have c2 : ¬ bt s k ≥ 192 := by omega
  have hI' : (k : Int) + 1 ≤ s.size := by omega
  obtain ⟨E, hE⟩ : ∃ E : ByteArray, ⟨(enc R).toArray⟩ = E := ⟨_, rfl⟩
  have henc := fun W => ref_encode R hr W
  rw [← hZ] at henc
  rw [hE] at hX henc
  have hz0 : (0 : Int) ≤ Z := by omega
  clear h0 hE
  unfold scal at hr
  by_cases hm : R < 55296
  · have g0 : decide (Z ≥ 0) = true := decide_eq_true (by omega)
    have g1 : decide (Z < 55296) = true := decide_eq_true (by omega)
    clear hr hm hZ
    go_enter Tryz.func90, Tryz.ntmps90
    go_wp2
    go_rounds 4
    have hkI : (0 : Int) ≤ k ∧ (k : Int) ≤ k + 1 := by omega
    clear hb q0 r0 c0 c1 c2 hz hz0
    have cE : ∀ d os, Calls Tryz.prog 103 #[.int .i32 Z] (grow (redrawn w d) os) fun e w'' => e = .returned (.string E) ∧ ∃ p : Regrown, w'' = grow (redrawn w p.d) p.os := fun d os => Calls.regrown_of (henc _)
    clear henc
    refine wp_region_quiet_below (by kernel_rfl) (by kernel_rfl) ?_
    repeat (first | go_big_quiet_step (exact cE _ _) | quiet_step (exact cE _ _))
    refine wpQuiet_nil ?_
    intro _ hw'
    obtain ⟨⟨dq, osq⟩, hw''⟩ := hw'
    subst hw''
    go_wp2
    go_ret2
    exact ⟨rfl, below_regrown w dq osq⟩
  · have g0 : decide (Z ≥ 0) = true := decide_eq_true (by omega)
    have g1 : decide (Z < 55296) = false := decide_eq_false (by omega)
    have g2 : decide (Z ≥ 57344) = true := decide_eq_true (by omega)
    have g3 : decide (Z ≤ 1114111) = true := decide_eq_true (by omega)
    clear hr hm hZ
    go_enter Tryz.func90, Tryz.ntmps90
    go_wp2
    go_rounds 4
    have hkI : (0 : Int) ≤ k ∧ (k : Int) ≤ k + 1 := by omega
    clear hb q0 r0 c0 c1 c2 hz hz0
    have cE : ∀ d os, Calls Tryz.prog 103 #[.int .i32 Z] (grow (redrawn w d) os) fun e w'' => e = .returned (.string E) ∧ ∃ p : Regrown, w'' = grow (redrawn w p.d) p.os := fun d os => Calls.regrown_of (henc _)
    clear henc
    refine wp_region_quiet_below (by kernel_rfl) (by kernel_rfl) ?_
    repeat (first | go_big_quiet_step (exact cE _ _) | quiet_step (exact cE _ _))
    refine wpQuiet_nil ?_
    intro _ hw'
    obtain ⟨⟨dq, osq⟩, hw''⟩ := hw'
    subst hw''
    go_wp2
    go_ret2
    exact ⟨rfl, below_regrown w dq osq⟩

set_option maxHeartbeats 1000000 in
set_option maxRecDepth 100000 in
theorem rf1_other (s : ByteArray) (k : Nat) (w : World) (hs : s.size ≤ 140737488351232) (hk : k < s.size) (h0 : bt s k < 192) (hI : k + 1 ≤ s.size) (R : Nat) (hr : scal R) (Z : Int) (hZ : Z = R) (hz : bt s k = Z) (hX : ¬ ⟨(enc R).toArray⟩ = s.extract k (k + 1)) :
    Calls Tryz.prog 90 #[.string s, .int .i64 k] w fun e w' => e = .returned (.tuple #[.int .i32 0, .int .i64 0]) ∧ Below w.heap.size w w' := by
  have hb := get_bt s
  have q0 := bt_nonneg s k
  have r0 := bt_le s k
  have c0 : ¬ bt s k ≥ 240 := by omega
  have c1 : ¬ bt s k ≥ 224 := by omega
  have c2 : ¬ bt s k ≥ 192 := by omega
  have hI' : (k : Int) + 1 ≤ s.size := by omega
  obtain ⟨E, hE⟩ : ∃ E : ByteArray, ⟨(enc R).toArray⟩ = E := ⟨_, rfl⟩
  have henc := fun W => ref_encode R hr W
  rw [← hZ] at henc
  rw [hE] at hX henc
  have hXl := ne_list hX
  have hz0 : (0 : Int) ≤ Z := by omega
  clear h0 hE
  unfold scal at hr
  by_cases hm : R < 55296
  · have g0 : decide (Z ≥ 0) = true := decide_eq_true (by omega)
    have g1 : decide (Z < 55296) = true := decide_eq_true (by omega)
    clear hr hm hZ
    go_enter Tryz.func90, Tryz.ntmps90
    go_wp2
    go_rounds 4
    have hkI : (0 : Int) ≤ k ∧ (k : Int) ≤ k + 1 := by omega
    clear hb q0 r0 c0 c1 c2 hz hz0
    have cE : ∀ d os, Calls Tryz.prog 103 #[.int .i32 Z] (grow (redrawn w d) os) fun e w'' => e = .returned (.string E) ∧ ∃ p : Regrown, w'' = grow (redrawn w p.d) p.os := fun d os => Calls.regrown_of (henc _)
    clear henc
    refine wp_region_quiet_below (by kernel_rfl) (by kernel_rfl) ?_
    repeat (first | go_big_quiet_step (exact cE _ _) | quiet_step (exact cE _ _))
    refine wpQuiet_nil ?_
    intro _ hw'
    obtain ⟨⟨dq, osq⟩, hw''⟩ := hw'
    subst hw''
    go_wp2
    go_ret2
    exact ⟨rfl, below_regrown w dq osq⟩
  · have g0 : decide (Z ≥ 0) = true := decide_eq_true (by omega)
    have g1 : decide (Z < 55296) = false := decide_eq_false (by omega)
    have g2 : decide (Z ≥ 57344) = true := decide_eq_true (by omega)
    have g3 : decide (Z ≤ 1114111) = true := decide_eq_true (by omega)
    clear hr hm hZ
    go_enter Tryz.func90, Tryz.ntmps90
    go_wp2
    go_rounds 4
    have hkI : (0 : Int) ≤ k ∧ (k : Int) ≤ k + 1 := by omega
    clear hb q0 r0 c0 c1 c2 hz hz0
    have cE : ∀ d os, Calls Tryz.prog 103 #[.int .i32 Z] (grow (redrawn w d) os) fun e w'' => e = .returned (.string E) ∧ ∃ p : Regrown, w'' = grow (redrawn w p.d) p.os := fun d os => Calls.regrown_of (henc _)
    clear henc
    refine wp_region_quiet_below (by kernel_rfl) (by kernel_rfl) ?_
    repeat (first | go_big_quiet_step (exact cE _ _) | quiet_step (exact cE _ _))
    refine wpQuiet_nil ?_
    intro _ hw'
    obtain ⟨⟨dq, osq⟩, hw''⟩ := hw'
    subst hw''
    go_wp2
    go_ret2
    exact ⟨rfl, below_regrown w dq osq⟩

theorem rf2_out (s : ByteArray) (k : Nat) (w : World) (hs : s.size ≤ 140737488351232) (hk : k < s.size) (h0 : 192 ≤ bt s k) (h1 : bt s k < 224) (ho : s.size < k + 2) :
    Calls Tryz.prog 90 #[.string s, .int .i64 k] w fun e w' => e = .returned (.tuple #[.int .i32 0, .int .i64 0]) ∧ Below w.heap.size w w' := by
  have hb := get_bt s
  have q0 := bt_nonneg s k
  have r0 := bt_le s k
  have c0 : ¬ bt s k ≥ 240 := by omega
  have c1 : ¬ bt s k ≥ 224 := by omega
  have c2 : bt s k ≥ 192 := by omega
  have hI : ¬ (k : Int) + 2 ≤ s.size := by omega
  clear h0 h1
  go_enter Tryz.func90, Tryz.ntmps90
  go_wp2
  go_ret2
  exact ⟨rfl, Below.refl _ _⟩

set_option maxHeartbeats 1000000 in
set_option maxRecDepth 100000 in
theorem rf2_non (s : ByteArray) (k : Nat) (w : World) (hs : s.size ≤ 140737488351232) (hk : k < s.size) (h0 : 192 ≤ bt s k) (h1 : bt s k < 224) (hI : k + 2 ≤ s.size) (Z : Int) (hz : (bt s k - 192) * 64 + bt s (k + 1) % 64 = Z) (hn : ¬ isScal Z) :
    Calls Tryz.prog 90 #[.string s, .int .i64 k] w fun e w' => e = .returned (.tuple #[.int .i32 0, .int .i64 0]) ∧ Below w.heap.size w w' := by
  have q0 := bt_nonneg s k
  have r0 := bt_le s k
  have q1 := bt_nonneg s (k + 1)
  have r1 := bt_le s (k + 1)
  have c0 : ¬ bt s k ≥ 240 := by omega
  have c1 : ¬ bt s k ≥ 224 := by omega
  have c2 : bt s k ≥ 192 := by omega
  have hI' : (k : Int) + 2 ≤ s.size := by omega
  unfold isScal at hn
  exfalso; omega

set_option maxHeartbeats 1000000 in
set_option maxRecDepth 100000 in
theorem rf2_same (s : ByteArray) (k : Nat) (w : World) (hs : s.size ≤ 140737488351232) (hk : k < s.size) (h0 : 192 ≤ bt s k) (h1 : bt s k < 224) (hI : k + 2 ≤ s.size) (R : Nat) (hr : scal R) (Z : Int) (hZ : Z = R) (hz : (bt s k - 192) * 64 + bt s (k + 1) % 64 = Z) (hX : s.extract k (k + 2) = ⟨(enc R).toArray⟩) :
    Calls Tryz.prog 90 #[.string s, .int .i64 k] w fun e w' => e = .returned (.tuple #[.int .i32 Z, .int .i64 2]) ∧ Below w.heap.size w w' := by
  have hb := get_bt s
  have q0 := bt_nonneg s k
  have r0 := bt_le s k
  have q1 := bt_nonneg s (k + 1)
  have r1 := bt_le s (k + 1)
  have c0 : ¬ bt s k ≥ 240 := by omega
  have c1 : ¬ bt s k ≥ 224 := by omega
  have c2 : bt s k ≥ 192 := by omega
  have hI' : (k : Int) + 2 ≤ s.size := by omega
  obtain ⟨E, hE⟩ : ∃ E : ByteArray, ⟨(enc R).toArray⟩ = E := ⟨_, rfl⟩
  have henc := fun W => ref_encode R hr W
  rw [← hZ] at henc
  rw [hE] at hX henc
  have hz0 : (0 : Int) ≤ Z := by omega
  clear h0 h1 hE
  unfold scal at hr
  by_cases hm : R < 55296
  · have g0 : decide (Z ≥ 0) = true := decide_eq_true (by omega)
    have g1 : decide (Z < 55296) = true := decide_eq_true (by omega)
    clear hr hm hZ
    go_enter Tryz.func90, Tryz.ntmps90
    go_wp2
    go_rounds 4
    have hkI : (0 : Int) ≤ k ∧ (k : Int) ≤ k + 2 := by omega
    clear hb q0 r0 q1 r1 c0 c1 c2 hz hz0
    have cE : ∀ d os, Calls Tryz.prog 103 #[.int .i32 Z] (grow (redrawn w d) os) fun e w'' => e = .returned (.string E) ∧ ∃ p : Regrown, w'' = grow (redrawn w p.d) p.os := fun d os => Calls.regrown_of (henc _)
    clear henc
    refine wp_region_quiet_below (by kernel_rfl) (by kernel_rfl) ?_
    repeat (first | go_big_quiet_step (exact cE _ _) | quiet_step (exact cE _ _))
    refine wpQuiet_nil ?_
    intro _ hw'
    obtain ⟨⟨dq, osq⟩, hw''⟩ := hw'
    subst hw''
    go_wp2
    go_ret2
    exact ⟨rfl, below_regrown w dq osq⟩
  · have g0 : decide (Z ≥ 0) = true := decide_eq_true (by omega)
    have g1 : decide (Z < 55296) = false := decide_eq_false (by omega)
    have g2 : decide (Z ≥ 57344) = true := decide_eq_true (by omega)
    have g3 : decide (Z ≤ 1114111) = true := decide_eq_true (by omega)
    clear hr hm hZ
    go_enter Tryz.func90, Tryz.ntmps90
    go_wp2
    go_rounds 4
    have hkI : (0 : Int) ≤ k ∧ (k : Int) ≤ k + 2 := by omega
    clear hb q0 r0 q1 r1 c0 c1 c2 hz hz0
    have cE : ∀ d os, Calls Tryz.prog 103 #[.int .i32 Z] (grow (redrawn w d) os) fun e w'' => e = .returned (.string E) ∧ ∃ p : Regrown, w'' = grow (redrawn w p.d) p.os := fun d os => Calls.regrown_of (henc _)
    clear henc
    refine wp_region_quiet_below (by kernel_rfl) (by kernel_rfl) ?_
    repeat (first | go_big_quiet_step (exact cE _ _) | quiet_step (exact cE _ _))
    refine wpQuiet_nil ?_
    intro _ hw'
    obtain ⟨⟨dq, osq⟩, hw''⟩ := hw'
    subst hw''
    go_wp2
    go_ret2
    exact ⟨rfl, below_regrown w dq osq⟩

set_option maxHeartbeats 1000000 in
set_option maxRecDepth 100000 in
theorem rf2_other (s : ByteArray) (k : Nat) (w : World) (hs : s.size ≤ 140737488351232) (hk : k < s.size) (h0 : 192 ≤ bt s k) (h1 : bt s k < 224) (hI : k + 2 ≤ s.size) (R : Nat) (hr : scal R) (Z : Int) (hZ : Z = R) (hz : (bt s k - 192) * 64 + bt s (k + 1) % 64 = Z) (hX : ¬ ⟨(enc R).toArray⟩ = s.extract k (k + 2)) :
    Calls Tryz.prog 90 #[.string s, .int .i64 k] w fun e w' => e = .returned (.tuple #[.int .i32 0, .int .i64 0]) ∧ Below w.heap.size w w' := by
  have hb := get_bt s
  have q0 := bt_nonneg s k
  have r0 := bt_le s k
  have q1 := bt_nonneg s (k + 1)
  have r1 := bt_le s (k + 1)
  have c0 : ¬ bt s k ≥ 240 := by omega
  have c1 : ¬ bt s k ≥ 224 := by omega
  have c2 : bt s k ≥ 192 := by omega
  have hI' : (k : Int) + 2 ≤ s.size := by omega
  obtain ⟨E, hE⟩ : ∃ E : ByteArray, ⟨(enc R).toArray⟩ = E := ⟨_, rfl⟩
  have henc := fun W => ref_encode R hr W
  rw [← hZ] at henc
  rw [hE] at hX henc
  have hXl := ne_list hX
  have hz0 : (0 : Int) ≤ Z := by omega
  clear h0 h1 hE
  unfold scal at hr
  by_cases hm : R < 55296
  · have g0 : decide (Z ≥ 0) = true := decide_eq_true (by omega)
    have g1 : decide (Z < 55296) = true := decide_eq_true (by omega)
    clear hr hm hZ
    go_enter Tryz.func90, Tryz.ntmps90
    go_wp2
    go_rounds 4
    have hkI : (0 : Int) ≤ k ∧ (k : Int) ≤ k + 2 := by omega
    clear hb q0 r0 q1 r1 c0 c1 c2 hz hz0
    have cE : ∀ d os, Calls Tryz.prog 103 #[.int .i32 Z] (grow (redrawn w d) os) fun e w'' => e = .returned (.string E) ∧ ∃ p : Regrown, w'' = grow (redrawn w p.d) p.os := fun d os => Calls.regrown_of (henc _)
    clear henc
    refine wp_region_quiet_below (by kernel_rfl) (by kernel_rfl) ?_
    repeat (first | go_big_quiet_step (exact cE _ _) | quiet_step (exact cE _ _))
    refine wpQuiet_nil ?_
    intro _ hw'
    obtain ⟨⟨dq, osq⟩, hw''⟩ := hw'
    subst hw''
    go_wp2
    go_ret2
    exact ⟨rfl, below_regrown w dq osq⟩
  · have g0 : decide (Z ≥ 0) = true := decide_eq_true (by omega)
    have g1 : decide (Z < 55296) = false := decide_eq_false (by omega)
    have g2 : decide (Z ≥ 57344) = true := decide_eq_true (by omega)
    have g3 : decide (Z ≤ 1114111) = true := decide_eq_true (by omega)
    clear hr hm hZ
    go_enter Tryz.func90, Tryz.ntmps90
    go_wp2
    go_rounds 4
    have hkI : (0 : Int) ≤ k ∧ (k : Int) ≤ k + 2 := by omega
    clear hb q0 r0 q1 r1 c0 c1 c2 hz hz0
    have cE : ∀ d os, Calls Tryz.prog 103 #[.int .i32 Z] (grow (redrawn w d) os) fun e w'' => e = .returned (.string E) ∧ ∃ p : Regrown, w'' = grow (redrawn w p.d) p.os := fun d os => Calls.regrown_of (henc _)
    clear henc
    refine wp_region_quiet_below (by kernel_rfl) (by kernel_rfl) ?_
    repeat (first | go_big_quiet_step (exact cE _ _) | quiet_step (exact cE _ _))
    refine wpQuiet_nil ?_
    intro _ hw'
    obtain ⟨⟨dq, osq⟩, hw''⟩ := hw'
    subst hw''
    go_wp2
    go_ret2
    exact ⟨rfl, below_regrown w dq osq⟩

theorem rf3_out (s : ByteArray) (k : Nat) (w : World) (hs : s.size ≤ 140737488351232) (hk : k < s.size) (h0 : 224 ≤ bt s k) (h1 : bt s k < 240) (ho : s.size < k + 3) :
    Calls Tryz.prog 90 #[.string s, .int .i64 k] w fun e w' => e = .returned (.tuple #[.int .i32 0, .int .i64 0]) ∧ Below w.heap.size w w' := by
  have hb := get_bt s
  have q0 := bt_nonneg s k
  have r0 := bt_le s k
  have c0 : ¬ bt s k ≥ 240 := by omega
  have c1 : bt s k ≥ 224 := by omega
  have hI : ¬ (k : Int) + 3 ≤ s.size := by omega
  clear h0 h1
  go_enter Tryz.func90, Tryz.ntmps90
  go_wp2
  go_ret2
  exact ⟨rfl, Below.refl _ _⟩

set_option maxHeartbeats 1000000 in
set_option maxRecDepth 100000 in
theorem rf3_non (s : ByteArray) (k : Nat) (w : World) (hs : s.size ≤ 140737488351232) (hk : k < s.size) (h0 : 224 ≤ bt s k) (h1 : bt s k < 240) (hI : k + 3 ≤ s.size) (Z : Int) (hz : ((bt s k - 224) * 64 + bt s (k + 1) % 64) * 64 + bt s (k + 2) % 64 = Z) (hn : ¬ isScal Z) :
    Calls Tryz.prog 90 #[.string s, .int .i64 k] w fun e w' => e = .returned (.tuple #[.int .i32 0, .int .i64 0]) ∧ Below w.heap.size w w' := by
  have hb := get_bt s
  have q0 := bt_nonneg s k
  have r0 := bt_le s k
  have q1 := bt_nonneg s (k + 1)
  have r1 := bt_le s (k + 1)
  have q2 := bt_nonneg s (k + 2)
  have r2 := bt_le s (k + 2)
  have c0 : ¬ bt s k ≥ 240 := by omega
  have c1 : bt s k ≥ 224 := by omega
  have hI' : (k : Int) + 3 ≤ s.size := by omega
  have hz0 : 0 ≤ Z := by omega
  unfold isScal at hn
  clear h0 h1
  by_cases hm : Z < 57344
  · have g0 : decide (Z ≥ 0) = true := decide_eq_true (by omega)
    have g1 : decide (Z < 55296) = false := decide_eq_false (by omega)
    have g2 : decide (Z ≥ 57344) = false := decide_eq_false (by omega)
    clear hn hm
    go_enter Tryz.func90, Tryz.ntmps90
    go_wp2
    go_rounds 4
    go_quiet (fail)
    go_wp2
    go_ret2
    exact ⟨rfl, below_drewN (Below.refl _ _) _⟩
  · exfalso; omega

set_option maxHeartbeats 1000000 in
set_option maxRecDepth 100000 in
theorem rf3_same (s : ByteArray) (k : Nat) (w : World) (hs : s.size ≤ 140737488351232) (hk : k < s.size) (h0 : 224 ≤ bt s k) (h1 : bt s k < 240) (hI : k + 3 ≤ s.size) (R : Nat) (hr : scal R) (Z : Int) (hZ : Z = R) (hz : ((bt s k - 224) * 64 + bt s (k + 1) % 64) * 64 + bt s (k + 2) % 64 = Z) (hX : s.extract k (k + 3) = ⟨(enc R).toArray⟩) :
    Calls Tryz.prog 90 #[.string s, .int .i64 k] w fun e w' => e = .returned (.tuple #[.int .i32 Z, .int .i64 3]) ∧ Below w.heap.size w w' := by
  have hb := get_bt s
  have q0 := bt_nonneg s k
  have r0 := bt_le s k
  have q1 := bt_nonneg s (k + 1)
  have r1 := bt_le s (k + 1)
  have q2 := bt_nonneg s (k + 2)
  have r2 := bt_le s (k + 2)
  have c0 : ¬ bt s k ≥ 240 := by omega
  have c1 : bt s k ≥ 224 := by omega
  have hI' : (k : Int) + 3 ≤ s.size := by omega
  obtain ⟨E, hE⟩ : ∃ E : ByteArray, ⟨(enc R).toArray⟩ = E := ⟨_, rfl⟩
  have henc := fun W => ref_encode R hr W
  rw [← hZ] at henc
  rw [hE] at hX henc
  have hz0 : (0 : Int) ≤ Z := by omega
  clear h0 h1 hE
  unfold scal at hr
  by_cases hm : R < 55296
  · have g0 : decide (Z ≥ 0) = true := decide_eq_true (by omega)
    have g1 : decide (Z < 55296) = true := decide_eq_true (by omega)
    clear hr hm hZ
    go_enter Tryz.func90, Tryz.ntmps90
    go_wp2
    go_rounds 4
    have hkI : (0 : Int) ≤ k ∧ (k : Int) ≤ k + 3 := by omega
    clear hb q0 r0 q1 r1 q2 r2 c0 c1 hz hz0
    have cE : ∀ d os, Calls Tryz.prog 103 #[.int .i32 Z] (grow (redrawn w d) os) fun e w'' => e = .returned (.string E) ∧ ∃ p : Regrown, w'' = grow (redrawn w p.d) p.os := fun d os => Calls.regrown_of (henc _)
    clear henc
    refine wp_region_quiet_below (by kernel_rfl) (by kernel_rfl) ?_
    repeat (first | go_big_quiet_step (exact cE _ _) | quiet_step (exact cE _ _))
    refine wpQuiet_nil ?_
    intro _ hw'
    obtain ⟨⟨dq, osq⟩, hw''⟩ := hw'
    subst hw''
    go_wp2
    go_ret2
    exact ⟨rfl, below_regrown w dq osq⟩
  · have g0 : decide (Z ≥ 0) = true := decide_eq_true (by omega)
    have g1 : decide (Z < 55296) = false := decide_eq_false (by omega)
    have g2 : decide (Z ≥ 57344) = true := decide_eq_true (by omega)
    have g3 : decide (Z ≤ 1114111) = true := decide_eq_true (by omega)
    clear hr hm hZ
    go_enter Tryz.func90, Tryz.ntmps90
    go_wp2
    go_rounds 4
    have hkI : (0 : Int) ≤ k ∧ (k : Int) ≤ k + 3 := by omega
    clear hb q0 r0 q1 r1 q2 r2 c0 c1 hz hz0
    have cE : ∀ d os, Calls Tryz.prog 103 #[.int .i32 Z] (grow (redrawn w d) os) fun e w'' => e = .returned (.string E) ∧ ∃ p : Regrown, w'' = grow (redrawn w p.d) p.os := fun d os => Calls.regrown_of (henc _)
    clear henc
    refine wp_region_quiet_below (by kernel_rfl) (by kernel_rfl) ?_
    repeat (first | go_big_quiet_step (exact cE _ _) | quiet_step (exact cE _ _))
    refine wpQuiet_nil ?_
    intro _ hw'
    obtain ⟨⟨dq, osq⟩, hw''⟩ := hw'
    subst hw''
    go_wp2
    go_ret2
    exact ⟨rfl, below_regrown w dq osq⟩

set_option maxHeartbeats 1000000 in
set_option maxRecDepth 100000 in
theorem rf3_other (s : ByteArray) (k : Nat) (w : World) (hs : s.size ≤ 140737488351232) (hk : k < s.size) (h0 : 224 ≤ bt s k) (h1 : bt s k < 240) (hI : k + 3 ≤ s.size) (R : Nat) (hr : scal R) (Z : Int) (hZ : Z = R) (hz : ((bt s k - 224) * 64 + bt s (k + 1) % 64) * 64 + bt s (k + 2) % 64 = Z) (hX : ¬ ⟨(enc R).toArray⟩ = s.extract k (k + 3)) :
    Calls Tryz.prog 90 #[.string s, .int .i64 k] w fun e w' => e = .returned (.tuple #[.int .i32 0, .int .i64 0]) ∧ Below w.heap.size w w' := by
  have hb := get_bt s
  have q0 := bt_nonneg s k
  have r0 := bt_le s k
  have q1 := bt_nonneg s (k + 1)
  have r1 := bt_le s (k + 1)
  have q2 := bt_nonneg s (k + 2)
  have r2 := bt_le s (k + 2)
  have c0 : ¬ bt s k ≥ 240 := by omega
  have c1 : bt s k ≥ 224 := by omega
  have hI' : (k : Int) + 3 ≤ s.size := by omega
  obtain ⟨E, hE⟩ : ∃ E : ByteArray, ⟨(enc R).toArray⟩ = E := ⟨_, rfl⟩
  have henc := fun W => ref_encode R hr W
  rw [← hZ] at henc
  rw [hE] at hX henc
  have hXl := ne_list hX
  have hz0 : (0 : Int) ≤ Z := by omega
  clear h0 h1 hE
  unfold scal at hr
  by_cases hm : R < 55296
  · have g0 : decide (Z ≥ 0) = true := decide_eq_true (by omega)
    have g1 : decide (Z < 55296) = true := decide_eq_true (by omega)
    clear hr hm hZ
    go_enter Tryz.func90, Tryz.ntmps90
    go_wp2
    go_rounds 4
    have hkI : (0 : Int) ≤ k ∧ (k : Int) ≤ k + 3 := by omega
    clear hb q0 r0 q1 r1 q2 r2 c0 c1 hz hz0
    have cE : ∀ d os, Calls Tryz.prog 103 #[.int .i32 Z] (grow (redrawn w d) os) fun e w'' => e = .returned (.string E) ∧ ∃ p : Regrown, w'' = grow (redrawn w p.d) p.os := fun d os => Calls.regrown_of (henc _)
    clear henc
    refine wp_region_quiet_below (by kernel_rfl) (by kernel_rfl) ?_
    repeat (first | go_big_quiet_step (exact cE _ _) | quiet_step (exact cE _ _))
    refine wpQuiet_nil ?_
    intro _ hw'
    obtain ⟨⟨dq, osq⟩, hw''⟩ := hw'
    subst hw''
    go_wp2
    go_ret2
    exact ⟨rfl, below_regrown w dq osq⟩
  · have g0 : decide (Z ≥ 0) = true := decide_eq_true (by omega)
    have g1 : decide (Z < 55296) = false := decide_eq_false (by omega)
    have g2 : decide (Z ≥ 57344) = true := decide_eq_true (by omega)
    have g3 : decide (Z ≤ 1114111) = true := decide_eq_true (by omega)
    clear hr hm hZ
    go_enter Tryz.func90, Tryz.ntmps90
    go_wp2
    go_rounds 4
    have hkI : (0 : Int) ≤ k ∧ (k : Int) ≤ k + 3 := by omega
    clear hb q0 r0 q1 r1 q2 r2 c0 c1 hz hz0
    have cE : ∀ d os, Calls Tryz.prog 103 #[.int .i32 Z] (grow (redrawn w d) os) fun e w'' => e = .returned (.string E) ∧ ∃ p : Regrown, w'' = grow (redrawn w p.d) p.os := fun d os => Calls.regrown_of (henc _)
    clear henc
    refine wp_region_quiet_below (by kernel_rfl) (by kernel_rfl) ?_
    repeat (first | go_big_quiet_step (exact cE _ _) | quiet_step (exact cE _ _))
    refine wpQuiet_nil ?_
    intro _ hw'
    obtain ⟨⟨dq, osq⟩, hw''⟩ := hw'
    subst hw''
    go_wp2
    go_ret2
    exact ⟨rfl, below_regrown w dq osq⟩

theorem rf4_out (s : ByteArray) (k : Nat) (w : World) (hs : s.size ≤ 140737488351232) (hk : k < s.size) (h0 : 240 ≤ bt s k) (ho : s.size < k + 4) :
    Calls Tryz.prog 90 #[.string s, .int .i64 k] w fun e w' => e = .returned (.tuple #[.int .i32 0, .int .i64 0]) ∧ Below w.heap.size w w' := by
  have hb := get_bt s
  have q0 := bt_nonneg s k
  have r0 := bt_le s k
  have c0 : bt s k ≥ 240 := by omega
  have hI : ¬ (k : Int) + 4 ≤ s.size := by omega
  clear h0
  go_enter Tryz.func90, Tryz.ntmps90
  go_wp2
  go_ret2
  exact ⟨rfl, Below.refl _ _⟩

set_option maxHeartbeats 1000000 in
set_option maxRecDepth 100000 in
theorem rf4_non (s : ByteArray) (k : Nat) (w : World) (hs : s.size ≤ 140737488351232) (hk : k < s.size) (h0 : 240 ≤ bt s k) (hI : k + 4 ≤ s.size) (Z : Int) (hz : (((bt s k - 240) * 64 + bt s (k + 1) % 64) * 64 + bt s (k + 2) % 64) * 64 + bt s (k + 3) % 64 = Z) (hn : ¬ isScal Z) :
    Calls Tryz.prog 90 #[.string s, .int .i64 k] w fun e w' => e = .returned (.tuple #[.int .i32 0, .int .i64 0]) ∧ Below w.heap.size w w' := by
  have hb := get_bt s
  have q0 := bt_nonneg s k
  have r0 := bt_le s k
  have q1 := bt_nonneg s (k + 1)
  have r1 := bt_le s (k + 1)
  have q2 := bt_nonneg s (k + 2)
  have r2 := bt_le s (k + 2)
  have q3 := bt_nonneg s (k + 3)
  have r3 := bt_le s (k + 3)
  have c0 : bt s k ≥ 240 := by omega
  have hI' : (k : Int) + 4 ≤ s.size := by omega
  have hz0 : 0 ≤ Z := by omega
  unfold isScal at hn
  clear h0
  by_cases hm : Z < 57344
  · have g0 : decide (Z ≥ 0) = true := decide_eq_true (by omega)
    have g1 : decide (Z < 55296) = false := decide_eq_false (by omega)
    have g2 : decide (Z ≥ 57344) = false := decide_eq_false (by omega)
    clear hn hm
    go_enter Tryz.func90, Tryz.ntmps90
    go_wp2
    go_rounds 4
    go_quiet (fail)
    go_wp2
    go_ret2
    exact ⟨rfl, below_drewN (Below.refl _ _) _⟩
  · have g0 : decide (Z ≥ 0) = true := decide_eq_true (by omega)
    have g1 : decide (Z < 55296) = false := decide_eq_false (by omega)
    have g2 : decide (Z ≥ 57344) = true := decide_eq_true (by omega)
    have g3 : decide (Z ≤ 1114111) = false := decide_eq_false (by omega)
    clear hn hm
    go_enter Tryz.func90, Tryz.ntmps90
    go_wp2
    go_rounds 4
    go_quiet (fail)
    go_wp2
    go_ret2
    exact ⟨rfl, below_drewN (Below.refl _ _) _⟩

set_option maxHeartbeats 1000000 in
set_option maxRecDepth 100000 in
theorem rf4_same (s : ByteArray) (k : Nat) (w : World) (hs : s.size ≤ 140737488351232) (hk : k < s.size) (h0 : 240 ≤ bt s k) (hI : k + 4 ≤ s.size) (R : Nat) (hr : scal R) (Z : Int) (hZ : Z = R) (hz : (((bt s k - 240) * 64 + bt s (k + 1) % 64) * 64 + bt s (k + 2) % 64) * 64 + bt s (k + 3) % 64 = Z) (hX : s.extract k (k + 4) = ⟨(enc R).toArray⟩) :
    Calls Tryz.prog 90 #[.string s, .int .i64 k] w fun e w' => e = .returned (.tuple #[.int .i32 Z, .int .i64 4]) ∧ Below w.heap.size w w' := by
  have hb := get_bt s
  have q0 := bt_nonneg s k
  have r0 := bt_le s k
  have q1 := bt_nonneg s (k + 1)
  have r1 := bt_le s (k + 1)
  have q2 := bt_nonneg s (k + 2)
  have r2 := bt_le s (k + 2)
  have q3 := bt_nonneg s (k + 3)
  have r3 := bt_le s (k + 3)
  have c0 : bt s k ≥ 240 := by omega
  have hI' : (k : Int) + 4 ≤ s.size := by omega
  obtain ⟨E, hE⟩ : ∃ E : ByteArray, ⟨(enc R).toArray⟩ = E := ⟨_, rfl⟩
  have henc := fun W => ref_encode R hr W
  rw [← hZ] at henc
  rw [hE] at hX henc
  have hz0 : (0 : Int) ≤ Z := by omega
  clear h0 hE
  unfold scal at hr
  by_cases hm : R < 55296
  · have g0 : decide (Z ≥ 0) = true := decide_eq_true (by omega)
    have g1 : decide (Z < 55296) = true := decide_eq_true (by omega)
    clear hr hm hZ
    go_enter Tryz.func90, Tryz.ntmps90
    go_wp2
    go_rounds 4
    have hkI : (0 : Int) ≤ k ∧ (k : Int) ≤ k + 4 := by omega
    clear hb q0 r0 q1 r1 q2 r2 q3 r3 c0 hz hz0
    have cE : ∀ d os, Calls Tryz.prog 103 #[.int .i32 Z] (grow (redrawn w d) os) fun e w'' => e = .returned (.string E) ∧ ∃ p : Regrown, w'' = grow (redrawn w p.d) p.os := fun d os => Calls.regrown_of (henc _)
    clear henc
    refine wp_region_quiet_below (by kernel_rfl) (by kernel_rfl) ?_
    repeat (first | go_big_quiet_step (exact cE _ _) | quiet_step (exact cE _ _))
    refine wpQuiet_nil ?_
    intro _ hw'
    obtain ⟨⟨dq, osq⟩, hw''⟩ := hw'
    subst hw''
    go_wp2
    go_ret2
    exact ⟨rfl, below_regrown w dq osq⟩
  · have g0 : decide (Z ≥ 0) = true := decide_eq_true (by omega)
    have g1 : decide (Z < 55296) = false := decide_eq_false (by omega)
    have g2 : decide (Z ≥ 57344) = true := decide_eq_true (by omega)
    have g3 : decide (Z ≤ 1114111) = true := decide_eq_true (by omega)
    clear hr hm hZ
    go_enter Tryz.func90, Tryz.ntmps90
    go_wp2
    go_rounds 4
    have hkI : (0 : Int) ≤ k ∧ (k : Int) ≤ k + 4 := by omega
    clear hb q0 r0 q1 r1 q2 r2 q3 r3 c0 hz hz0
    have cE : ∀ d os, Calls Tryz.prog 103 #[.int .i32 Z] (grow (redrawn w d) os) fun e w'' => e = .returned (.string E) ∧ ∃ p : Regrown, w'' = grow (redrawn w p.d) p.os := fun d os => Calls.regrown_of (henc _)
    clear henc
    refine wp_region_quiet_below (by kernel_rfl) (by kernel_rfl) ?_
    repeat (first | go_big_quiet_step (exact cE _ _) | quiet_step (exact cE _ _))
    refine wpQuiet_nil ?_
    intro _ hw'
    obtain ⟨⟨dq, osq⟩, hw''⟩ := hw'
    subst hw''
    go_wp2
    go_ret2
    exact ⟨rfl, below_regrown w dq osq⟩

set_option maxHeartbeats 1000000 in
set_option maxRecDepth 100000 in
theorem rf4_other (s : ByteArray) (k : Nat) (w : World) (hs : s.size ≤ 140737488351232) (hk : k < s.size) (h0 : 240 ≤ bt s k) (hI : k + 4 ≤ s.size) (R : Nat) (hr : scal R) (Z : Int) (hZ : Z = R) (hz : (((bt s k - 240) * 64 + bt s (k + 1) % 64) * 64 + bt s (k + 2) % 64) * 64 + bt s (k + 3) % 64 = Z) (hX : ¬ ⟨(enc R).toArray⟩ = s.extract k (k + 4)) :
    Calls Tryz.prog 90 #[.string s, .int .i64 k] w fun e w' => e = .returned (.tuple #[.int .i32 0, .int .i64 0]) ∧ Below w.heap.size w w' := by
  have hb := get_bt s
  have q0 := bt_nonneg s k
  have r0 := bt_le s k
  have q1 := bt_nonneg s (k + 1)
  have r1 := bt_le s (k + 1)
  have q2 := bt_nonneg s (k + 2)
  have r2 := bt_le s (k + 2)
  have q3 := bt_nonneg s (k + 3)
  have r3 := bt_le s (k + 3)
  have c0 : bt s k ≥ 240 := by omega
  have hI' : (k : Int) + 4 ≤ s.size := by omega
  obtain ⟨E, hE⟩ : ∃ E : ByteArray, ⟨(enc R).toArray⟩ = E := ⟨_, rfl⟩
  have henc := fun W => ref_encode R hr W
  rw [← hZ] at henc
  rw [hE] at hX henc
  have hXl := ne_list hX
  have hz0 : (0 : Int) ≤ Z := by omega
  clear h0 hE
  unfold scal at hr
  by_cases hm : R < 55296
  · have g0 : decide (Z ≥ 0) = true := decide_eq_true (by omega)
    have g1 : decide (Z < 55296) = true := decide_eq_true (by omega)
    clear hr hm hZ
    go_enter Tryz.func90, Tryz.ntmps90
    go_wp2
    go_rounds 4
    have hkI : (0 : Int) ≤ k ∧ (k : Int) ≤ k + 4 := by omega
    clear hb q0 r0 q1 r1 q2 r2 q3 r3 c0 hz hz0
    have cE : ∀ d os, Calls Tryz.prog 103 #[.int .i32 Z] (grow (redrawn w d) os) fun e w'' => e = .returned (.string E) ∧ ∃ p : Regrown, w'' = grow (redrawn w p.d) p.os := fun d os => Calls.regrown_of (henc _)
    clear henc
    refine wp_region_quiet_below (by kernel_rfl) (by kernel_rfl) ?_
    repeat (first | go_big_quiet_step (exact cE _ _) | quiet_step (exact cE _ _))
    refine wpQuiet_nil ?_
    intro _ hw'
    obtain ⟨⟨dq, osq⟩, hw''⟩ := hw'
    subst hw''
    go_wp2
    go_ret2
    exact ⟨rfl, below_regrown w dq osq⟩
  · have g0 : decide (Z ≥ 0) = true := decide_eq_true (by omega)
    have g1 : decide (Z < 55296) = false := decide_eq_false (by omega)
    have g2 : decide (Z ≥ 57344) = true := decide_eq_true (by omega)
    have g3 : decide (Z ≤ 1114111) = true := decide_eq_true (by omega)
    clear hr hm hZ
    go_enter Tryz.func90, Tryz.ntmps90
    go_wp2
    go_rounds 4
    have hkI : (0 : Int) ≤ k ∧ (k : Int) ≤ k + 4 := by omega
    clear hb q0 r0 q1 r1 q2 r2 q3 r3 c0 hz hz0
    have cE : ∀ d os, Calls Tryz.prog 103 #[.int .i32 Z] (grow (redrawn w d) os) fun e w'' => e = .returned (.string E) ∧ ∃ p : Regrown, w'' = grow (redrawn w p.d) p.os := fun d os => Calls.regrown_of (henc _)
    clear henc
    refine wp_region_quiet_below (by kernel_rfl) (by kernel_rfl) ?_
    repeat (first | go_big_quiet_step (exact cE _ _) | quiet_step (exact cE _ _))
    refine wpQuiet_nil ?_
    intro _ hw'
    obtain ⟨⟨dq, osq⟩, hw''⟩ := hw'
    subst hw''
    go_wp2
    go_ret2
    exact ⟨rfl, below_regrown w dq osq⟩

end Go.Proofs.YtgimcloadjjefabGreatDoor

/- What the reference's first and decode answer. -/
namespace Go.Proofs.YtgimcloadjjefabGreatDoor
open Go Go.RowKit Go.Lib Go.PlainAid
set_option linter.unusedVariables false

theorem bt_at (s : ByteArray) (k j : Nat) (x : UInt8) (h : (s.data.toList.drop k)[j]? = some x) : bt s (k + j) = (x.toNat : Int) ∧ k + j < s.size := by
  rw [List.getElem?_drop] at h
  obtain ⟨h1, h2⟩ := List.getElem?_eq_some_iff.1 h
  rw [size_toList] at h1
  refine ⟨?_, h1⟩
  unfold bt
  rw [dif_pos h1, ← h2]
  rfl

theorem bt_enc (s : ByteArray) (k j : Nat) (z : Int) (l : List UInt8) (hz0 : 0 ≤ z) (hz1 : z < 256) (hd : s.data.toList.drop k = l) (h : l[j]? = some z.toNat.toUInt8) : bt s (k + j) = z ∧ k + j < s.size := by
  obtain ⟨h1, h2⟩ := bt_at s k j _ (by rw [hd]; exact h)
  rw [u8_nat _ hz0 hz1] at h1
  exact ⟨by omega, h2⟩

theorem ref_first_ok (s : ByteArray) (k : Nat) (w : World) (hs : s.size ≤ 140737488351232) (r : Nat) (h : scal r) (t : List UInt8) (hd : s.data.toList.drop k = enc r ++ t) :
    Calls Tryz.prog 90 #[.string s, .int .i64 k] w fun e w' => e = .returned (.tuple #[.int .i32 r, .int .i64 ((enc r).length : Nat)]) ∧ Below w.heap.size w w' := by
  have hX : s.extract k (k + (enc r).length) = ⟨(enc r).toArray⟩ := extract_of s (enc r) k (k + (enc r).length) (by rw [hd, Nat.add_sub_cancel_left, List.take_left])
  have hh := h
  unfold scal at hh
  by_cases h1 : r < 128
  · have e := enc_one h1
    rw [e] at hd
    obtain ⟨a0, s0⟩ := bt_enc s k 0 _ _ (by omega) (by omega) hd rfl
    rw [Nat.add_zero] at a0 s0
    have hl : (enc r).length = 1 := by rw [e]; rfl
    rw [hl] at hX ⊢
    exact rf1_same s k w hs s0 (by omega) s0 r h r rfl (by omega) hX
  by_cases h2 : r < 2048
  · have e := enc_two (by omega) h2
    rw [e] at hd
    obtain ⟨a0, s0⟩ := bt_enc s k 0 _ _ (by omega) (by omega) hd rfl
    obtain ⟨a1, s1⟩ := bt_enc s k 1 _ _ (by omega) (by omega) hd rfl
    rw [Nat.add_zero] at a0 s0
    have hl : (enc r).length = 2 := by rw [e]; rfl
    rw [hl] at hX ⊢
    exact rf2_same s k w hs s0 (by omega) (by omega) s1 r h r rfl (by omega) hX
  by_cases h3 : r < 65536
  · have e := enc_three (by omega) h3 h
    rw [e] at hd
    obtain ⟨a0, s0⟩ := bt_enc s k 0 _ _ (by omega) (by omega) hd rfl
    obtain ⟨a1, s1⟩ := bt_enc s k 1 _ _ (by omega) (by omega) hd rfl
    obtain ⟨a2, s2⟩ := bt_enc s k 2 _ _ (by omega) (by omega) hd rfl
    rw [Nat.add_zero] at a0 s0
    have hl : (enc r).length = 3 := by rw [e]; rfl
    rw [hl] at hX ⊢
    exact rf3_same s k w hs s0 (by omega) (by omega) s2 r h r rfl (by omega) hX
  · have e := enc_four (by omega) (by omega : r ≤ 1114111)
    rw [e] at hd
    obtain ⟨a0, s0⟩ := bt_enc s k 0 _ _ (by omega) (by omega) hd rfl
    obtain ⟨a1, s1⟩ := bt_enc s k 1 _ _ (by omega) (by omega) hd rfl
    obtain ⟨a2, s2⟩ := bt_enc s k 2 _ _ (by omega) (by omega) hd rfl
    obtain ⟨a3, s3⟩ := bt_enc s k 3 _ _ (by omega) (by omega) hd rfl
    rw [Nat.add_zero] at a0 s0
    have hl : (enc r).length = 4 := by rw [e]; rfl
    rw [hl] at hX ⊢
    exact rf4_same s k w hs s0 (by omega) s3 r h r rfl (by omega) hX

theorem not_extract {s : ByteArray} {k n : Nat} {R : Nat} (hR : scal R) (hst : stuckL (s.data.toList.drop k)) : ¬ ⟨(enc R).toArray⟩ = s.extract k (k + n) := by
  intro e
  have e1 := congrArg (fun x : ByteArray => x.data.toList) e
  simp only [extract_data, Nat.add_sub_cancel_left] at e1
  have e2 : s.data.toList.drop k = enc R ++ (s.data.toList.drop k).drop n := by
    conv => lhs; rw [← List.take_append_drop n (s.data.toList.drop k)]
    rw [← e1]
  exact not_stuck_enc hR _ (e2 ▸ hst)

theorem ref_first_bad (s : ByteArray) (k : Nat) (w : World) (hs : s.size ≤ 140737488351232) (hk : k < s.size) (hst : stuckL (s.data.toList.drop k)) :
    Calls Tryz.prog 90 #[.string s, .int .i64 k] w fun e w' => e = .returned (.tuple #[.int .i32 0, .int .i64 0]) ∧ Below w.heap.size w w' := by
  have q0 := bt_nonneg s k
  have q1 := bt_nonneg s (k + 1)
  have q2 := bt_nonneg s (k + 2)
  have q3 := bt_nonneg s (k + 3)
  have go : ∀ Z : Int, isScal Z → ∃ R : Nat, scal R ∧ Z = R := fun Z hz => ⟨Z.toNat, by unfold isScal at hz; unfold scal; omega, by unfold isScal at hz; omega⟩
  by_cases h1 : bt s k < 192
  · by_cases hZ : isScal (bt s k)
    · obtain ⟨R, hR, e⟩ := go _ hZ
      exact rf1_other s k w hs hk h1 hk R hR _ e rfl (not_extract hR hst)
    · exact rf1_non s k w hs hk h1 hk _ rfl hZ
  by_cases h2 : bt s k < 224
  · by_cases ho : s.size < k + 2
    · exact rf2_out s k w hs hk (by omega) h2 ho
    by_cases hZ : isScal ((bt s k - 192) * 64 + bt s (k + 1) % 64)
    · obtain ⟨R, hR, e⟩ := go _ hZ
      exact rf2_other s k w hs hk (by omega) h2 (by omega) R hR _ e rfl (not_extract hR hst)
    · exact rf2_non s k w hs hk (by omega) h2 (by omega) _ rfl hZ
  by_cases h3 : bt s k < 240
  · by_cases ho : s.size < k + 3
    · exact rf3_out s k w hs hk (by omega) h3 ho
    by_cases hZ : isScal (((bt s k - 224) * 64 + bt s (k + 1) % 64) * 64 + bt s (k + 2) % 64)
    · obtain ⟨R, hR, e⟩ := go _ hZ
      exact rf3_other s k w hs hk (by omega) h3 (by omega) R hR _ e rfl (not_extract hR hst)
    · exact rf3_non s k w hs hk (by omega) h3 (by omega) _ rfl hZ
  · by_cases ho : s.size < k + 4
    · exact rf4_out s k w hs hk (by omega) ho
    by_cases hZ : isScal ((((bt s k - 240) * 64 + bt s (k + 1) % 64) * 64 + bt s (k + 2) % 64) * 64 + bt s (k + 3) % 64)
    · obtain ⟨R, hR, e⟩ := go _ hZ
      exact rf4_other s k w hs hk (by omega) (by omega) R hR _ e rfl (not_extract hR hst)
    · exact rf4_non s k w hs hk (by omega) (by omega) _ rfl hZ
end Go.Proofs.YtgimcloadjjefabGreatDoor

/- What the reference's decode, Breaks, List and Check answer. -/
namespace Go.Proofs.YtgimcloadjjefabGreatDoor
open Go Go.RowKit Go.Lib
set_option linter.unusedVariables false

set_option maxHeartbeats 1000000 in
set_option maxRecDepth 100000 in
theorem ref_decode (s : ByteArray) (w : World) (hs : s.size ≤ 35184372087808) :
    Calls Tryz.prog 76 #[.string s] w fun e w' => ∃ v, e = .returned (.tuple #[v, .int .i64 (brk s.data.toList)]) ∧ Own32 w.heap.size w' v (ints (scs s.data.toList)) ∧ (∃ g cap, v = .slice (some ⟨g, 0, none⟩) (scs s.data.toList).length cap) ∧ Below w.heap.size w w' := by
  obtain ⟨t, h1, h2, h3⟩ := text_cases s.data.toList
  have hbk : brk s.data.toList = (encs (scs s.data.toList)).length := rfl
  obtain ⟨rs, hrs⟩ : ∃ rs, scs s.data.toList = rs := ⟨_, rfl⟩
  obtain ⟨B, hB⟩ : ∃ B, brk s.data.toList = B := ⟨_, rfl⟩
  rw [hB, hrs] at hbk
  rw [hrs] at h1 h3 ⊢
  rw [hB]
  obtain ⟨n, hn⟩ : ∃ n, rs.length = n := ⟨_, rfl⟩
  have hpn : pos rs n = B := by rw [← hn, pos_all, hbk]
  have hsz : B + t.length = s.size := by
    have := congrArg List.length h3
    rw [List.length_append, size_toList] at this
    omega
  have hnB : n ≤ B := by
    have : ∀ rs : List Nat, (∀ r ∈ rs, scal r) → rs.length ≤ (encs rs).length := fun rs => by
      induction rs with
      | nil => intro _; exact Nat.le_refl _
      | cons x rs ih =>
        intro hx
        have := enc_pos (hx x (by simp))
        have := ih fun r hr => hx r (by simp [hr])
        simp only [encs, List.length_append, List.length_cons]
        omega
    have := this rs h1
    omega
  have hdrop : ∀ i, s.data.toList.drop (pos rs i) = encs (rs.drop i) ++ t := fun i => by
    rw [h3, List.drop_append_of_le_length (pos_le rs i), drop_pos]
  obtain ⟨i0, z0, hi, hz, hz1, hz2, hz3⟩ := info32
  have hZ : Hid (i0.zero = some z0 ∧ i0.size = 1 ∧ i0.bytes = 4 ∧ z0.cells.size = 1) := ⟨hz, hz1, hz2, hz3⟩
  have HD : Hid (∀ i, s.data.toList.drop (pos rs i) = encs (rs.drop i) ++ t) := hdrop
  have HP : Hid (pos rs n = B) := hpn
  have HN : Hid (rs.length = n) := hn
  have HS : Hid (B + t.length = s.size) := hsz
  have hBs : B ≤ s.size := by omega
  clear hz hz1 hz2 hz3 hdrop hpn hn hsz h3 hrs hB hbk
  go_enter Tryz.func76, Tryz.ntmps76
  go_wp2
  have hst : (w.alloc (.cells #[] 21)).ownsRow w.heap.size 21 1 (.slice (some ⟨w.heap.size, 0, none⟩) 0 0) 0 [] := World.ownsRow_made w #[] 0 (Nat.le_refl _) (Nat.zero_le _) rfl
  have hbi : Below w.heap.size w (w.alloc (.cells #[] 21)) := (Below.refl _ _).alloc (Nat.le_refl _) _
  obtain ⟨v0, hv0⟩ : ∃ v0 : Value, v0 = Value.slice (some ⟨w.heap.size, 0, none⟩) 0 0 := ⟨_, rfl⟩
  have HV0 : Hid (∃ g cap, v0 = .slice (some ⟨g, 0, none⟩) 0 cap) := ⟨_, _, hv0⟩
  rw [← hv0] at hst ⊢
  obtain ⟨wi, hwi⟩ : ∃ wi, wi = w.alloc (.cells #[] 21) := ⟨_, rfl⟩
  rw [← hwi] at hst hbi ⊢
  clear hv0 hwi
  go_loopw [4, 5] (fun v p wr => ∃ i q : Nat, i ≤ n ∧ p = .int .i64 q ∧ q = pos rs i ∧ wr.ownsRow w.heap.size 21 1 v i (cells32 (ints (rs.take i))) ∧ (∃ g cap, v = .slice (some ⟨g, 0, none⟩) i cap) ∧ Below w.heap.size w wr) (fun _ p _ => s.size - (RowKit.intOf p).toNat)
  case atStart => exact ⟨0, 0, Nat.zero_le _, rfl, rfl, hst, HV0.out, hbi⟩
  case round =>
    clear hst hbi
    obtain ⟨i, q, hin, rfl, hq, hown, hform, hbw⟩ := hrel
    have HF : Hid (∃ g cap, u4 = .slice (some ⟨g, 0, none⟩) i cap) := hform
    clear hform
    by_cases hlt : i < n
    · have hr := h1 _ (List.getElem_mem (show i < rs.length by rw [HN.out]; exact hlt))
      have hps := pos_succ rs i (by rw [HN.out]; exact hlt)
      have hpl := enc_pos hr
      have hle : pos rs (i + 1) ≤ s.size := by
        have := congrArg List.length (HD.out (i + 1))
        have h4 := pos_le rs (i + 1)
        have h5 := HP.out
        rw [← HN.out, pos_all] at h5
        omega
      have hd : s.data.toList.drop q = enc (rs[i]'(by rw [HN.out]; exact hlt)) ++ (encs (rs.drop (i + 1)) ++ t) := by
        rw [hq, HD.out i, List.drop_eq_getElem_cons (by rw [HN.out]; exact hlt), encs, List.append_assoc]
      have HT : Hid (cells32 (ints (rs.take (i + 1))) = cells32 (ints (rs.take i)) ++ [.int .i32 ((rs[i]'(by rw [HN.out]; exact hlt) : Nat) : Int)]) := by
        show _ = _
        rw [List.take_succ_eq_append_getElem (by rw [HN.out]; exact hlt)]
        simp only [cells32, ints, List.map_append, List.map_cons, List.map_nil]
      have c := fun W => ref_first_ok s q W (by omega) _ hr _ hd
      obtain ⟨R, hR⟩ : ∃ R, rs[i]'(by rw [HN.out]; exact hlt) = R := ⟨_, rfl⟩
      rw [hR] at hps hpl HT c
      obtain ⟨L, hL⟩ : ∃ L, (enc R).length = L := ⟨_, rfl⟩
      rw [hL] at hps hpl c
      rw [hps, ← hq] at hle
      have HQ : Hid (pos rs (i + 1) = q + L) := by show _ = _; rw [hps, hq]
      clear hd hps hR hL h1 hq hr
      go_wp2_with (first
        | (go_at_call 90; refine (c _).mono ?_; rintro e w2 ⟨rfl, hb2⟩; have hbw2 := hbw.trans (hb2.mono hbw.size); have hown3 : (w2.alloc (.cells #[.int .i32 R] 21)).ownsRow w.heap.size 21 1 _ i _ := owns_below (owns_below hown hb2) ((Below.refl _ _).alloc (Nat.le_refl _) _))
        | (at_builtin; refine wpList_append_own _ rfl _ _ 126 rfl w.heap.size 21 i0 z0 1 4 Tryz.underlying126 hi hZ.out.1 hZ.out.2.1 hZ.out.2.2.1 hZ.out.2.2.2 (by decide) _ i _ rfl hown3 ⟨w2.heap.size, 0, none⟩ 1 1 [.int .i32 R] rfl rfl (by intro j u hj; cases j with | zero => (simp at hj; subst hj; simp [Addr.add]) | succ j => simp at hj) (fun u hu => by rw [List.mem_singleton.1 hu]; rfl) (by unfold maxLen; omega) (by omega) (by simp; have := hbw2.size; omega) ?_; intro v' w3 hown4 hgr4 _))
      have hb3 : Below w.heap.size w w3 := (hbw2.alloc hbw2.size _).grown hgr4 (by have := hbw2.size; simp; omega) (fun k hk => (owns_block hown3 k hk).1)
      go_roundw
      case rel => exact ⟨i + 1, q + L, by omega, by go_num, HQ.out.symm, by rw [HT.out]; exact hown4, own_val hown4 (by omega), hb3⟩
      case measure => simp [RowKit.intOf]; omega
    · obtain rfl : i = n := by omega
      have hqB : q = B := by rw [hq, HP.out]
      have hall : rs.take i = rs := List.take_of_length_le (by rw [HN.out]; exact Nat.le_refl _)
      have HO : Hid (wr.ownsRow w.heap.size 21 1 u4 (ints rs).length (cells32 (ints rs))) := by
        show wr.ownsRow _ _ _ _ _ _
        rw [ints_length, HN.out]
        rw [hall] at hown
        exact hown
      subst hqB
      by_cases hend : q < s.size
      · have hst : stuckL (s.data.toList.drop q) := by
          have e0 : rs.drop i = [] := List.drop_eq_nil_of_le (by rw [HN.out]; exact Nat.le_refl _)
          have := HD.out i
          rw [← hq, e0] at this
          simp only [encs, List.nil_append] at this
          rw [this]
          exact h2
        have c := ref_first_bad s q wr (by omega) hend hst
        have hendI : (q : Int) < s.size := by omega
        clear hown hall hq h1 hst
        go_wp2_with (go_at_call 90; refine c.mono ?_; rintro e w2 ⟨rfl, hb2⟩)
        go_ret2
        exact ⟨_, rfl, owns_below HO.out hb2, by rw [HN.out]; exact HF.out, hbw.trans (hb2.mono hbw.size)⟩
      · have hendI : ¬ (q : Int) < s.size := by omega
        clear hown hall hq h1
        go_wp2
        go_ret2
        exact ⟨_, rfl, HO.out, by rw [HN.out]; exact HF.out, hbw⟩

theorem ref_breaks (s : ByteArray) (w : World) (hs : s.size ≤ 35184372087808) :
    Calls Tryz.prog 87 #[.string s] w fun e w' => e = .returned (.int .i64 (brk s.data.toList)) ∧ Below w.heap.size w w' := by
  have c := ref_decode s w hs
  go_enter Tryz.func87, Tryz.ntmps87
  go_wp2_with (go_at_call 76; refine c.mono ?_; rintro e w2 ⟨v, rfl, _, _, hb2⟩)
  go_ret
  exact ⟨rfl, hb2⟩
theorem ref_list (s : ByteArray) (w : World) (hs : s.size ≤ 35184372087808) :
    Calls Tryz.prog 66 #[.string s] w fun e w' => ∃ v, e = .returned v ∧ Own32 w.heap.size w' v (ints (scs s.data.toList)) ∧ (∃ g cap, v = .slice (some ⟨g, 0, none⟩) (scs s.data.toList).length cap) ∧ Below w.heap.size w w' := by
  have c := ref_decode s w hs
  go_enter Tryz.func66, Tryz.ntmps66
  go_wp2_with (go_at_call 76; refine c.mono ?_; rintro e w2 ⟨v, rfl, hv, hf, hb2⟩)
  go_ret
  exact ⟨_, rfl, hv, hf, hb2⟩
end Go.Proofs.YtgimcloadjjefabGreatDoor

/- The order of Plains: a total order. -/
namespace Go.Proofs.YtgimcloadjjefabGreatDoor
open Go Go.RowKit Go.Lib
set_option linter.unusedVariables false

theorem ci_cases (x y : Int) : (x < y ∧ compareInt x y = -1) ∨ (x = y ∧ compareInt x y = 0) ∨ (y < x ∧ compareInt x y = 1) := by
  unfold compareInt
  by_cases h : x < y
  · left; simp [h]
  · by_cases h2 : x > y
    · right; right; simp [h, h2]
    · right; left
      refine ⟨by omega, by simp [h, h2]⟩
theorem cmp_range (k n : Int) (t : ByteArray) (k' n' : Int) (t' : ByteArray) : -1 ≤ cmpP k n t k' n' t' ∧ cmpP k n t k' n' t' ≤ 1 := by
  unfold cmpP orZ
  have h3 := cb_range t.data.toList t'.data.toList
  rcases ci_cases k k' with ⟨_, h1⟩ | ⟨_, h1⟩ | ⟨_, h1⟩ <;> rw [h1] <;> simp
  rcases ci_cases n n' with ⟨_, h2⟩ | ⟨_, h2⟩ | ⟨_, h2⟩ <;> rw [h2] <;> simp
  omega
theorem cmp_swap (k n : Int) (t : ByteArray) (k' n' : Int) (t' : ByteArray) : cmpP k' n' t' k n t = - cmpP k n t k' n' t' := by
  unfold cmpP orZ
  rcases ci_cases k k' with ⟨a1, h1⟩ | ⟨a1, h1⟩ | ⟨a1, h1⟩ <;> rcases ci_cases k' k with ⟨a2, h2⟩ | ⟨a2, h2⟩ | ⟨a2, h2⟩ <;> rw [h1, h2] <;> simp <;> (try omega)
  rcases ci_cases n n' with ⟨b1, g1⟩ | ⟨b1, g1⟩ | ⟨b1, g1⟩ <;> rcases ci_cases n' n with ⟨b2, g2⟩ | ⟨b2, g2⟩ | ⟨b2, g2⟩ <;> rw [g1, g2] <;> simp <;> (try omega)
  exact cb_swap _ _
theorem cmp_zero (k n : Int) (t : ByteArray) (k' n' : Int) (t' : ByteArray) : cmpP k n t k' n' t' = 0 ↔ samB k n t k' n' t' = true := by
  rw [samB_iff]
  unfold cmpP orZ
  rcases ci_cases k k' with ⟨a1, h1⟩ | ⟨a1, h1⟩ | ⟨a1, h1⟩ <;> rw [h1] <;> simp
  · omega
  · rcases ci_cases n n' with ⟨b1, g1⟩ | ⟨b1, g1⟩ | ⟨b1, g1⟩ <;> rw [g1] <;> simp
    · omega
    · rw [cb_zero]
      constructor
      · intro h; exact ⟨a1, b1, ByteArray.ext (Array.ext' h)⟩
      · rintro ⟨_, _, rfl⟩; rfl
    · omega
  · omega
theorem cmp_trans (k n : Int) (t : ByteArray) (k' n' : Int) (t' : ByteArray) (k2 n2 : Int) (t2 : ByteArray) (h1 : cmpP k n t k' n' t' ≤ 0) (h2 : cmpP k' n' t' k2 n2 t2 ≤ 0) :
    cmpP k n t k2 n2 t2 ≤ 0 ∧ (cmpP k n t k' n' t' < 0 → cmpP k n t k2 n2 t2 < 0) := by
  unfold cmpP orZ at *
  rcases ci_cases k k' with ⟨a1, e1⟩ | ⟨a1, e1⟩ | ⟨a1, e1⟩ <;> rw [e1] at h1 ⊢ <;>
  rcases ci_cases k' k2 with ⟨a2, e2⟩ | ⟨a2, e2⟩ | ⟨a2, e2⟩ <;> rw [e2] at h2 <;>
  rcases ci_cases k k2 with ⟨a3, e3⟩ | ⟨a3, e3⟩ | ⟨a3, e3⟩ <;> rw [e3] <;> simp at h1 h2 ⊢ <;> (try omega)
  rcases ci_cases n n' with ⟨b1, g1⟩ | ⟨b1, g1⟩ | ⟨b1, g1⟩ <;> rw [g1] at h1 ⊢ <;>
  rcases ci_cases n' n2 with ⟨b2, g2⟩ | ⟨b2, g2⟩ | ⟨b2, g2⟩ <;> rw [g2] at h2 <;>
  rcases ci_cases n n2 with ⟨b3, g3⟩ | ⟨b3, g3⟩ | ⟨b3, g3⟩ <;> rw [g3] <;> simp at h1 h2 ⊢ <;> (try omega)
  have := cb_trans _ _ _ h1 h2
  exact ⟨this.1, this.2.1⟩
theorem cmp_num {k n n' : Int} : cmpP k n ⟨#[]⟩ k n' ⟨#[]⟩ = compareInt n n' := by
  unfold cmpP orZ
  rcases ci_cases k k with ⟨a1, h1⟩ | ⟨a1, h1⟩ | ⟨a1, h1⟩
  · omega
  · rw [h1]; simp
    intro h
    rw [h, cb_zero]
  · omega
theorem cmp_text {t t' : ByteArray} : cmpP 3 0 t 3 0 t' = compareBytes t.data.toList t'.data.toList := by
  unfold cmpP orZ
  rcases ci_cases 3 3 with ⟨a1, h1⟩ | ⟨a1, h1⟩ | ⟨a1, h1⟩
  · omega
  · rcases ci_cases 0 0 with ⟨a2, h2⟩ | ⟨a2, h2⟩ | ⟨a2, h2⟩
    · omega
    · rw [h1, h2]; simp
    · omega
  · omega

end Go.Proofs.YtgimcloadjjefabGreatDoor

/- What the reference of layer 2 answers: text, Check, Compare. -/
namespace Go.Proofs.YtgimcloadjjefabGreatDoor
open Go Go.RowKit Go.Lib
set_option linter.unusedVariables false

theorem ref_utf8 (s : ByteArray) (w : World) (hs : s.size ≤ 35184372087808) (b : Bool) (hb : decide (brk s.data.toList = s.size) = b) :
    Calls Tryz.prog 73 #[.string s] w fun e w' => e = .returned (.bool b) ∧ Below w.heap.size w w' := by
  have c := ref_breaks s w hs
  obtain ⟨B, hB⟩ : ∃ B, brk s.data.toList = B := ⟨_, rfl⟩
  rw [hB] at c hb
  have e : ((B : Int) == (s.size : Int)) = b := by
    rw [← hb, Bool.eq_iff_iff]; simp; omega
  clear hB hb
  go_enter Tryz.func73, Tryz.ntmps73
  go_wp2_with (go_at_call 87; refine c.mono ?_; rintro r w2 ⟨rfl, hb2⟩)
  go_ret
  exact ⟨rfl, hb2⟩

theorem ref_txt (t : ByteArray) (w : World) (hs : t.size ≤ 35184372087808) :
    Calls Tryz.prog 88 #[.string t] w fun e w' => e = .returned (.int .i64 (txtE t)) ∧ Below w.heap.size w w' := by
  rcases txtE_cases t with ⟨he, hv, hl⟩ | ⟨he, hv, hl⟩ | ⟨he, hv⟩
  all_goals rw [he]
  · have c := ref_utf8 t w hs true (by simpa using hv)
    have hl' : (t.size : Int) ≤ 1048576 := by omega
    clear hv he
    go_enter Tryz.func88, Tryz.ntmps88
    go_wp2_with (go_at_call 73; refine c.mono ?_; rintro r w2 ⟨rfl, hb2⟩)
    go_ret
    exact ⟨rfl, hb2⟩
  · have c := ref_utf8 t w hs true (by simpa using hv)
    have hl' : (1048576 : Int) < t.size := by omega
    clear hv he
    go_enter Tryz.func88, Tryz.ntmps88
    go_wp2_with (go_at_call 73; refine c.mono ?_; rintro r w2 ⟨rfl, hb2⟩)
    go_ret
    exact ⟨rfl, hb2⟩
  · have c := ref_utf8 t w hs false (by simpa using hv)
    clear hv he
    go_enter Tryz.func88, Tryz.ntmps88
    go_wp2_with (go_at_call 73; refine c.mono ?_; rintro r w2 ⟨rfl, hb2⟩)
    go_ret
    exact ⟨rfl, hb2⟩

theorem ref_chk (k n : Int) (t : ByteArray) (w : World) (hs : t.size ≤ 35184372087808) :
    Calls Tryz.prog 74 #[pl k n t] w fun e w' => e = .returned (.int .i64 (chk k n t)) ∧ Below w.heap.size w w' := by
  have b0 := (Below.refl w.heap.size w).alloc (Nat.le_refl _) (.cells #[.int .i64 k, .int .i64 n, .string t] 43)
  have cT := from_below b0 (ref_txt t _ hs)
  obtain ⟨E, hE⟩ : ∃ E, chk k n t = E := ⟨_, rfl⟩
  rw [hE]
  by_cases h3 : k = 3
  · subst h3
    by_cases hn : n = 0
    · subst hn
      rw [chk_text] at hE
      rw [hE] at cT
      clear hE
      go_enter Tryz.func74, Tryz.ntmps74
      go_wp2_with (go_at_call 88; refine cT.mono ?_; rintro r w2 ⟨rfl, hb2⟩)
      go_ret
      exact ⟨rfl, hb2⟩
    · have hd : (n == 0) = false := by simpa using hn
      have : E = 5 := by rw [← hE]; simp [chk, fitB, hn]
      subst this
      clear hE cT hn
      go_enter Tryz.func74, Tryz.ntmps74
      go_wp2
      go_ret
      exact ⟨rfl, b0⟩
  · have hT : fitB k n t = true → t = ⟨#[]⟩ := fun hf => by
      have hf2 := hf
      unfold fitB at hf2
      repeat' split at hf2
      all_goals first | (simp only [Bool.and_eq_true, emp_iff] at hf2; exact hf2.2) | exact emp_iff.1 hf2 | (exfalso; omega) | (exfalso; cases hf2)
    have hE2 : E = if fitB k n t then 0 else 5 := by
      rw [← hE, chk]
      by_cases hf : fitB k n t = true
      · rw [if_pos hf, if_pos hf, hT hf, txtE_nil]
      · rw [if_neg hf, if_neg hf]
    clear hE hT cT
    by_cases h0 : k = 0
    · subst h0
      by_cases hn : n = 0
      · subst hn
        cases hEm : t.toList.isEmpty <;>
        · simp [fitB, hEm] at hE2
          subst hE2
          go_enter Tryz.func74, Tryz.ntmps74
          go_wp2
          go_ret
          exact ⟨rfl, b0⟩
      · have hd : (n != 0) = true := by simpa using hn
        simp [fitB, hn] at hE2
        subst hE2
        clear hn
        go_enter Tryz.func74, Tryz.ntmps74
        go_wp2
        go_ret
        exact ⟨rfl, b0⟩
    by_cases h1 : k = 1
    · subst h1
      clear h0 h3
      by_cases hlo : n < 0
      · have a1 : n ≠ 0 := by omega
        have a2 : n ≠ 1 := by omega
        simp [fitB, a1, a2] at hE2
        subst hE2
        clear a1 a2
        go_enter Tryz.func74, Tryz.ntmps74
        go_wp2
        go_ret
        exact ⟨rfl, b0⟩
      by_cases hhi : 1 < n
      · have a1 : n ≠ 0 := by omega
        have a2 : n ≠ 1 := by omega
        simp [fitB, a1, a2] at hE2
        subst hE2
        clear a1 a2
        go_enter Tryz.func74, Tryz.ntmps74
        go_wp2
        go_ret
        exact ⟨rfl, b0⟩
      · have hn : n = 0 ∨ n = 1 := by omega
        clear hlo hhi
        rcases hn with rfl | rfl
        all_goals
          cases hEm : t.toList.isEmpty <;>
          · simp [fitB, hEm] at hE2
            subst hE2
            go_enter Tryz.func74, Tryz.ntmps74
            go_wp2
            go_ret
            exact ⟨rfl, b0⟩
    by_cases h2 : k = 2
    · subst h2
      clear h0 h1 h3
      cases hEm : t.toList.isEmpty <;>
      · simp [fitB, hEm] at hE2
        subst hE2
        go_enter Tryz.func74, Tryz.ntmps74
        go_wp2
        go_ret
        exact ⟨rfl, b0⟩
    · have d0 : (k == 0) = false := by simpa using h0
      have d1 : (k == 1) = false := by simpa using h1
      have d2 : (k == 2) = false := by simpa using h2
      have d3 : (k == 3) = false := by simpa using h3
      simp [fitB, h0, h1, h2, h3] at hE2
      subst hE2
      clear h0 h1 h2 h3
      go_enter Tryz.func74, Tryz.ntmps74
      go_wp2
      go_ret
      exact ⟨rfl, b0⟩

end Go.Proofs.YtgimcloadjjefabGreatDoor

/- utf8.ValidString at this program: whether a text breaks nowhere. -/
namespace Go.Proofs.YtgimcloadjjefabGreatDoor
open Go Go.RowKit Go.Lib Go.Shelf
set_option linter.unusedVariables false

def Tryz.lays196_ren : Go.Shelf.Ren := ⟨fun | 196 => 89 | 259 => 101 | n => n, fun | 0 => 0 | 3 => 3 | 4 => 4 | 5 => 5 | 9 => 9 | 12 => 12 | 46 => 29 | 53 => 174 | 119 => 160 | 138 => 162 | 139 => 163 | n => n, fun | 3 => 19 | 4 => 20 | n => n⟩
theorem Tryz.lays196 : Go.Proofs.Lays.n196 Tryz.prog Tryz.lays196_ren := {
  mixed := by kernel_rfl
  f196 := Tryz.func89.trans (congrArg some (by kernel_rfl))
  f259 := Tryz.func101.trans (congrArg some (by kernel_rfl))
  t0 := Tryz.underlying0
  a0 := Tryz.isAgg0
  z0 := Tryz.sizeOf0
  v0 := Tryz.zeroValue0
  t3 := Tryz.underlying3
  a3 := Tryz.isAgg3
  z3 := Tryz.sizeOf3
  v3 := Tryz.zeroValue3
  t4 := Tryz.underlying4
  a4 := Tryz.isAgg4
  z4 := Tryz.sizeOf4
  v4 := Tryz.zeroValue4
  t5 := Tryz.underlying5
  a5 := Tryz.isAgg5
  z5 := Tryz.sizeOf5
  v5 := Tryz.zeroValue5
  t9 := Tryz.underlying9
  a9 := Tryz.isAgg9
  z9 := Tryz.sizeOf9
  v9 := Tryz.zeroValue9
  t12 := Tryz.underlying12
  a12 := Tryz.isAgg12
  z12 := Tryz.sizeOf12
  v12 := Tryz.zeroValue12
  t46 := Tryz.underlying29
  a46 := Tryz.isAgg29
  z46 := Tryz.sizeOf29
  v46 := Tryz.zeroValue29
  t53 := Tryz.underlying174
  a53 := Tryz.isAgg174
  z53 := Tryz.sizeOf174
  v53 := Tryz.zeroValue174
  t119 := Tryz.underlying160
  a119 := Tryz.isAgg160
  z119 := Tryz.sizeOf160
  t138 := Tryz.underlying162
  a138 := Tryz.isAgg162
  z138 := Tryz.sizeOf162
  v138 := Tryz.zeroValue162
  t139 := Tryz.underlying163
  a139 := Tryz.isAgg163
  z139 := Tryz.sizeOf163
  v139 := Tryz.zeroValue163
  g3 := by kernel_rfl
  g4 := by kernel_rfl }

theorem validD_encs : ∀ (rs : List Nat) (t : List UInt8), (∀ r ∈ rs, scal r) → validD (encs rs ++ t) = validD t
  | [], t, _ => rfl
  | r :: rs, t, h => by
    have hr := h r (List.mem_cons_self ..)
    have hp := enc_pos hr
    rw [encs, List.append_assoc, validD_step _ (by intro e; have := congrArg List.length e; rw [List.length_append] at this; simp only [List.length_nil] at this; omega), dec_enc hr, if_neg (by
      rintro ⟨h1, h2⟩
      simp only at h1 h2
      rw [enc_len hr, h1] at h2
      simp at h2)]
    rw [List.drop_left]
    exact validD_encs rs t (fun x hx => h x (List.mem_cons_of_mem _ hx))
theorem validD_brk (s : ByteArray) : validD s.data.toList = decide (brk s.data.toList = s.size) := by
  obtain ⟨t, h1, h2, h3⟩ := text_cases s.data.toList
  have hb := brk_eq h1 h2
  rw [← h3] at hb
  have hlen : s.data.toList.length = s.size := size_toList s
  have hl := congrArg List.length h3
  rw [List.length_append, hlen] at hl
  rw [hb]
  conv => lhs; rw [h3, validD_encs _ _ h1]
  rcases h2 with rfl | h2
  · simp only [List.length_nil] at hl
    rw [decide_eq_true (by omega)]; rfl
  · have hne : t ≠ [] := by rintro rfl; revert h2; decide
    rw [validD_step t hne, if_pos ⟨by rw [h2], by rw [h2]⟩]
    have : 0 < t.length := List.length_pos_iff.2 hne
    rw [decide_eq_false (by omega)]
theorem valid_any {I : List Nat} {a : Nat → Addr} (s : ByteArray) (w : World) (hS : Std I a w) (hs : s.size ≤ 281474976710656) :
    Calls Tryz.prog 89 #[.string s] w fun e w' => e = .returned (.bool (decide (brk s.data.toList = s.size))) ∧ Below w.heap.size w w' := by
  have := Any.utf8_ValidString Tryz.lays196 s w (by omega) hS.tabs
  rw [validD_brk] at this
  exact this
end Go.Proofs.YtgimcloadjjefabGreatDoor

/- What the reference of layer 3 says of pairs and lists: its numbers are the code's. -/
namespace Go.Proofs.YtgimcloadjjefabGreatDoor
open Go Go.RowKit Go.Lib
set_option linter.unusedVariables false

def Tiny (L : List A2) : Prop := ∀ q ∈ L, q.1.size ≤ 1048576 ∧ q.2.2.2.size ≤ 1048576
theorem tiny_small {L : List A2} (h : Tiny L) : Small L := fun q hq => by have := h q hq; unfold big; omega
theorem geq_run {P : Program} {t : TypeId} (x y : ByteArray) (b : Bool) (h : (!decide (kc x y < 0)) = b) (w : World) : (binOp .geq t (.string x) (.string y)).run P w = .ok (.bool b) w := by
  rw [← h, ← less_kc]
  simp [binOp, Op.stringOp]

set_option maxHeartbeats 1000000 in
theorem ref_pair {I : List Nat} {a : Nat → Addr} (q : A2) (w : World) (hS : Std I a w) (h1 : q.1.size ≤ 1048576) (h2 : q.2.2.2.size ≤ 1048576) :
    Calls Tryz.prog 75 #[atV q] w fun e w' => e = .returned (.int .i64 (pairE q)) ∧ Below w.heap.size w w' := by
  obtain ⟨k, x, n, t⟩ := q
  simp only at h1 h2
  have b0 := (Below.refl w.heap.size w).alloc (Nat.le_refl _) (.cells #[.string k, .int .i64 x, .int .i64 n, .string t] 119)
  by_cases hE : k.toList.isEmpty = true
  · have hz : k = ⟨#[]⟩ := emp_iff.1 hE
    subst hz
    rw [show pairE (⟨#[]⟩, x, n, t) = 6 by unfold pairE; rw [if_pos (Or.inl hE)]]
    clear hS hE
    go_enter Tryz.func75, Tryz.ntmps75
    go_wp2
    go_ret
    exact ⟨rfl, b0⟩
  · have hk : 0 < k.size := by
      rcases Nat.eq_zero_or_pos k.size with h | h
      · exact absurd (emp_iff.2 (ByteArray.ext (Array.eq_empty_of_size_eq_zero h))) hE
      · exact h
    have hkI : ¬ (k.size : Int) < 1 := by omega
    by_cases hL : 64 < k.size
    · rw [show pairE (k, x, n, t) = 6 by unfold pairE; rw [if_pos (Or.inr hL)]]
      have hLI : (64 : Int) < k.size := by omega
      clear hS hE
      go_enter Tryz.func75, Tryz.ntmps75
      go_wp2
      go_ret
      exact ⟨rfl, b0⟩
    · have hLI : ¬ (64 : Int) < k.size := by omega
      have hE2 : ¬ (k.toList.isEmpty = true ∨ 64 < k.size) := fun h => h.elim hE hL
      have cV := valid_any k _ (hS.below b0) (by omega)
      by_cases hB : brk k.data.toList = k.size
      · rw [show pairE (k, x, n, t) = chk x n t by unfold pairE; rw [if_neg hE2, if_neg (by simpa using hB)]]
        rw [decide_eq_true hB] at cV
        have c2 := fun W (hW : Below w.heap.size w W) => from_below hW (ref_chk x n t W (by omega))
        obtain ⟨E, hEE⟩ : ∃ E, chk x n t = E := ⟨_, rfl⟩
        rw [hEE] at c2 ⊢
        clear hS hE hB hEE hE2
        go_enter Tryz.func75, Tryz.ntmps75
        go_wp2_with (first
          | (go_at_call 89; refine cV.mono ?_; rintro e w1 ⟨rfl, b1⟩; have b := b0.trans (b1.mono b0.size); have d1 := b1.cell (p := ⟨w.heap.size, 1, none⟩) (by simp); have d2 := b1.cell (p := ⟨w.heap.size, 2, none⟩) (by simp); have d3 := b1.cell (p := ⟨w.heap.size, 3, none⟩) (by simp))
          | (go_at_call 74; refine (c2 _ b).mono ?_; rintro e w2 ⟨rfl, b2⟩))
        go_ret
        exact ⟨rfl, b2⟩
      · rw [show pairE (k, x, n, t) = 1 by unfold pairE; rw [if_neg hE2, if_pos hB]]
        rw [decide_eq_false hB] at cV
        clear hS hE hB hE2
        go_enter Tryz.func75, Tryz.ntmps75
        go_wp2_with (go_at_call 89; refine cV.mono ?_; rintro e w1 ⟨rfl, b1⟩)
        go_ret
        exact ⟨rfl, b0.trans (b1.mono b0.size)⟩

set_option maxHeartbeats 2000000 in
set_option maxRecDepth 100000 in
theorem ref_check {I : List Nat} {a : Nat → Addr} (v : Value) (L : List A2) (nulls : Bool) (w : World) (hS : Std I a w) (hv : RowA w v L)
    (hs : Tiny L) (hl : L.length ≤ 4611686018427387904) :
    Calls Tryz.prog 65 #[v, .bool nulls] w fun r w' => r = .returned (.int .i64 (listE nulls none L)) ∧ Below w.heap.size w w' := by
  obtain ⟨n, hn⟩ : ∃ n, L.length = n := ⟨_, rfl⟩
  obtain ⟨p, cap, rfl, hcap, hc⟩ := hv
  rw [hn] at hl hcap ⊢
  have HN : Hid (L.length = n) := hn
  have HC : Hid _ := hc
  have HS : Hid _ := hS
  have HZ : Hid _ := hs
  clear hc hS hs hn
  go_enter Tryz.func65, Tryz.ntmps65
  go_wp2
  go_loopw [10] (fun i wr => ∃ (k : Nat) (pv : Option ByteArray), k ≤ n ∧ i = .int .i64 k ∧ Below w.heap.size w wr ∧ Hid (listE nulls none L = listE nulls pv (L.drop k) ∧ (k = 0 → pv = none) ∧ ∀ j q, k = j + 1 → L[j]? = some q → pv = some q.1)) (fun i _ => n - (RowKit.intOf i).toNat)
  case atStart => exact ⟨0, none, Nat.zero_le _, rfl, Below.refl _ _, rfl, fun _ => rfl, fun j q h => by omega⟩
  case round =>
    obtain ⟨k, pv, hk, rfl, hbw, H⟩ := hrel
    by_cases hlt : k < n
    · have hltI : (k : Int) < n := by omega
      obtain ⟨q, hq⟩ : ∃ q, L[k]? = some q := ⟨_, List.getElem?_eq_getElem (by rw [HN.out]; exact hlt)⟩
      obtain ⟨b, off, rfl, hp⟩ := HC.out k q hq
      have hpw := hp.below hbw
      obtain ⟨c0, c1, c2, c3⟩ := hpw
      have hzs := HZ.out _ (List.mem_of_getElem? hq)
      have hd : L.drop k = q :: L.drop (k + 1) := by
        rw [List.drop_eq_getElem_cons (by rw [HN.out]; exact hlt)]
        rw [List.getElem?_eq_getElem (by rw [HN.out]; exact hlt)] at hq
        rw [Option.some.inj hq]
      obtain ⟨qk, qx, qn, qt⟩ := q
      simp only at c0 c1 c2 c3 hzs
      have hb1 : Below w.heap.size w (wr.alloc (.cells #[.string qk, .int .i64 qx, .int .i64 qn, .string qt] 119)) := hbw.alloc hbw.size _
      have cP := ref_pair (qk, qx, qn, qt) _ (HS.out.below hb1) hzs.1 hzs.2
      by_cases hE : pairE (qk, qx, qn, qt) = 0
      · rw [hE] at cP
        have hE1 : listE nulls none L = (if (!nulls && qx == 0) = true then 7 else if above pv qk = true then listE nulls (some qk) (L.drop (k + 1)) else 8) := by
          rw [H.out.1, hd, listE, if_pos hE]
        have HP : Hid ((k = 0 → pv = none) ∧ ∀ j q, k = j + 1 → L[j]? = some q → pv = some q.1) := H.out.2
        have HQ : Hid (L[k]? = some (qk, qx, qn, qt)) := hq
        have bp : ∀ W, Below (wr.alloc (.cells #[.string qk, .int .i64 qx, .int .i64 qn, .string qt] 119)).heap.size (wr.alloc (.cells #[.string qk, .int .i64 qx, .int .i64 qn, .string qt] 119)) W → PairAt W wr.heap.size 0 (qk, qx, qn, qt) := fun W hW => PairAt.below (w := wr.alloc (.cells #[.string qk, .int .i64 qx, .int .i64 qn, .string qt] 119)) ⟨by simp, by simp, by simp, by simp⟩ hW
        have HE1 : Hid _ := hE1
        clear hzs hq hd hE hE1 H hp
        by_cases hN : (!nulls && qx == 0) = true
        · have HR : Hid (listE nulls none L = 7) := by
            show _ = _
            rw [HE1.out, if_pos hN]
          simp only [Bool.and_eq_true, Bool.not_eq_true', beq_iff_eq] at hN
          obtain ⟨rfl, rfl⟩ := hN
          clear HE1 HP HQ
          go_wp2_with fail
          refine cP.mono ?_; rintro r w3 ⟨rfl, hb3⟩
          obtain ⟨e0, e1, e2, e3⟩ := bp _ hb3
          clear bp
          go_wp2
          go_ret
          rw [HR.out]
          exact ⟨rfl, hb1.trans (hb3.mono hb1.size)⟩
        · have HN2 : Hid (¬ (!nulls && qx == 0) = true) := hN
          have hcase : (qx == 0) = false ∨ ((qx == 0) = true ∧ nulls = true) := by
            cases hx : (qx == 0)
            · exact Or.inl rfl
            · cases hnl : nulls
              · rw [hx, hnl] at hN; exact absurd rfl hN
              · exact Or.inr ⟨rfl, rfl⟩
          clear hN
          rcases hcase with hx | ⟨hx, rfl⟩
          all_goals
            go_wp2_with fail
            refine cP.mono ?_; rintro r w3 ⟨rfl, hb3⟩
            obtain ⟨e0, e1, e2, e3⟩ := bp _ hb3
            have hb4 := hb1.trans (hb3.mono hb1.size)
            clear bp hb3 c0 c1 c2 c3
            go_wp2_with fail
            cases k with
            | zero =>
              have hg0 : decide ((0 : Int) < ((0 : Nat) : Int)) = false := by decide
              go_quiet (fail)
              go_wp2
              go_roundw
              case rel =>
                refine ⟨1, some qk, by omega, by go_num, by first | exact hb4 | exact below_drewN hb4 _, ?_, by omega, fun j q h1 h2 => ?_⟩
                · rw [HE1.out, if_neg HN2.out, if_pos (by rw [HP.out.1 rfl]; rfl)]
                · obtain rfl : j = 0 := by omega
                  rw [HQ.out] at h2
                  rw [← Option.some.inj h2]
              case measure => simp [RowKit.intOf]; omega
            | succ j =>
              obtain ⟨q', hq'⟩ : ∃ q', L[j]? = some q' := ⟨_, List.getElem?_eq_getElem (by rw [HN.out]; omega)⟩
              obtain ⟨b', off', hbo, hp'⟩ := HC.out j q' hq'
              simp only [Option.some.injEq, Addr.mk.injEq, and_true] at hbo
              obtain ⟨rfl, rfl⟩ := hbo
              have d0 := (hp'.below hb4).c0
              have hpv := HP.out.2 j q' rfl hq'
              have hg0 : (0 : Int) < ((j + 1 : Nat) : Int) := by omega
              have hg1 : (((j + 1 : Nat) : Int) - 1) = (j : Int) := by omega
              have hg2 : (j : Int) < n := by omega
              have hg3 : (0 : Int) ≤ j := by omega
              have hwr : IntKind.i64.wrap (j : Int) = (j : Int) := IntWalk.i64_in _ (by omega)
              obtain ⟨k', p'⟩ := q'
              simp only at d0 hpv
              by_cases hlt2 : kc k' qk < 0
              · have hless := geq_run (P := Tryz.prog) (t := 9) k' qk false (by simpa using hlt2)
                have HR : Hid (listE _ none L = listE _ (some qk) (L.drop (j + 1 + 1))) := HE1.out.trans (by rw [if_neg HN2.out, if_pos (by rw [hpv]; simpa [above] using hlt2)])
                have HP2 : Hid (∀ i q, j + 1 + 1 = i + 1 → L[i]? = some q → some qk = some q.1) := fun i q h1 h2 => by
                  obtain rfl : i = j + 1 := by omega
                  rw [HQ.out] at h2
                  rw [← Option.some.inj h2]
                clear hlt2 hpv hp' hq' HP HE1
                go_quiet (fail)
                go_wp2
                go_roundw
                case rel => exact ⟨j + 1 + 1, some qk, by omega, by go_num, by first | exact hb4 | exact below_drewN hb4 _, HR.out, fun h => by omega, HP2.out⟩
                case measure => simp [RowKit.intOf]; omega
              · have hless := geq_run (P := Tryz.prog) (t := 9) k' qk true (by simpa using hlt2)
                have HR : Hid (listE _ none L = 8) := HE1.out.trans (by rw [if_neg HN2.out, if_neg (by rw [hpv]; simpa [above] using hlt2)])
                clear hlt2 hpv hp' hq' HP HE1
                go_quiet (fail)
                go_wp2
                go_ret
                rw [HR.out]
                exact ⟨rfl, by first | exact hb4 | exact below_drewN hb4 _⟩
      · obtain ⟨e, he⟩ : ∃ e, pairE (qk, qx, qn, qt) = e + 1 := ⟨pairE (qk, qx, qn, qt) - 1, by omega⟩
        have HR : Hid (listE nulls none L = e + 1) := by
          show _ = _
          rw [H.out.1, hd, listE, if_neg hE, he]
        have hen : (((e + 1 : Nat) : Int) != 0) = true := by simp; omega
        rw [he] at cP
        clear hzs hq hd hE he H hp
        go_wp2_with fail
        refine cP.mono ?_; rintro r w3 ⟨rfl, hb3⟩
        go_wp2
        go_ret
        rw [HR.out]
        exact ⟨rfl, hb1.trans (hb3.mono hb1.size)⟩
    · have hltI : ¬ (k : Int) < n := by omega
      have HR : Hid (listE nulls none L = 0) := by
        show _ = _
        rw [H.out.1, List.drop_of_length_le (by rw [HN.out]; omega), listE]
      clear H
      go_wp2
      go_ret
      rw [HR.out]
      exact ⟨rfl, hbw⟩

end Go.Proofs.YtgimcloadjjefabGreatDoor
