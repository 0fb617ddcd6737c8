/- What the reference's first answers: the scalar with whose encoding a text begins at a place. What the reference's first and decode answer. What the reference's decode, Breaks, List and Check answer. The order of Plains: a total order. What the reference of layer 2 answers: text, Check, Compare. utf8.ValidString at this program: whether a text breaks nowhere. What the reference of layer 3 says of pairs and lists: its numbers are the code's. What vellumref04.Refuse and Check answer: what an insert is refused with. What vellumref04.Length answers of inserts. The document's answers for ops: empty, Check, Length, apart. The document's answers for lists of operations: Bad, Lengths, Canonical. The document's Canonical. Operations as new memory: appends of rows of operations; vellumlaw05.copied. The errors' numbers: what vellumnum.list and vellumnum.Num answer where all nineteen sentinels lie as laid. Of all lists of operations vellumlaw05.OpsPlays answers true. Lengths of lists, one behind the other. Of all lists of operations vellumlaw05.OpsSums answers true. -/
import Derived.Test.YtkgflmbhkbeakabDoorRda
import Derived.PlainAid
import Derived.Handy
import Derived.Lib.QuietBelow
import Derived.BigQuiet
import Derived.Test.YtkgflmbhkbeakabDoorOwn
import Derived.OwnWalk
import Derived.Laws.AppendOwn
import Derived.Test.YtkgflmbhkbeakabDoorVs
import Derived.Shelf.Unicode.ValidAny
import Derived.Test.YtkgflmbhkbeakabDoorSc
import Derived.Test.YtkgflmbhkbeakabDoorUtf
import Derived.Test.YtkgflmbhkbeakabDoorPc
import Derived.Test.YtkgflmbhkbeakabDoorSw
import Derived.Test.YtkgflmbhkbeakabDoorCf
import Derived.Test.YtkgflmbhkbeakabDoorQf
import Derived.Test.YtkgflmbhkbeakabDoorQg
import Derived.Deep.RegionHeld3
import Derived.Test.YtkgflmbhkbeakabDoorQd
import Derived.Deep.DeepCutAuto
import Derived.Test.YtkgflmbhkbeakabDoorEr
import Derived.Test.YtkgflmbhkbeakabDoorQn
import Derived.Test.YtkgflmbhkbeakabDoorQe

/- What the reference's first answers: the scalar with whose encoding a text begins at a place. -/
namespace Go.Proofs.YtkgflmbhkbeakabDoor
open Go Go.RowKit Go.Lib Go.PlainAid Go.Sort
set_option linter.unusedVariables false

theorem ne_list {a b : ByteArray} (h : ¬ a = b) : (a.toList == b.toList) = false := by
  rw [toList_data, toList_data]
  refine beq_eq_false_iff_ne.2 fun e => h ?_
  apply ByteArray.ext
  exact Array.ext' e

end Go.Proofs.YtkgflmbhkbeakabDoor

/- What the reference's first and decode answer. -/
namespace Go.Proofs.YtkgflmbhkbeakabDoor
open Go Go.RowKit Go.Lib Go.PlainAid
set_option linter.unusedVariables false

theorem bt_at (s : ByteArray) (k j : Nat) (x : UInt8) (h : (s.data.toList.drop k)[j]? = some x) : bt s (k + j) = (x.toNat : Int) ∧ k + j < s.size := by
  rw [List.getElem?_drop] at h
  obtain ⟨h1, h2⟩ := List.getElem?_eq_some_iff.1 h
  rw [size_toList] at h1
  refine ⟨?_, h1⟩
  unfold bt
  rw [dif_pos h1, ← h2]
  rfl

theorem bt_enc (s : ByteArray) (k j : Nat) (z : Int) (l : List UInt8) (hz0 : 0 ≤ z) (hz1 : z < 256) (hd : s.data.toList.drop k = l) (h : l[j]? = some z.toNat.toUInt8) : bt s (k + j) = z ∧ k + j < s.size := by
  obtain ⟨h1, h2⟩ := bt_at s k j _ (by rw [hd]; exact h)
  rw [u8_nat _ hz0 hz1] at h1
  exact ⟨by omega, h2⟩

theorem not_extract {s : ByteArray} {k n : Nat} {R : Nat} (hR : scal R) (hst : stuckL (s.data.toList.drop k)) : ¬ ⟨(enc R).toArray⟩ = s.extract k (k + n) := by
  intro e
  have e1 := congrArg (fun x : ByteArray => x.data.toList) e
  simp only [extract_data, Nat.add_sub_cancel_left] at e1
  have e2 : s.data.toList.drop k = enc R ++ (s.data.toList.drop k).drop n := by
    conv => lhs; rw [← List.take_append_drop n (s.data.toList.drop k)]
    rw [← e1]
  exact not_stuck_enc hR _ (e2 ▸ hst)

end Go.Proofs.YtkgflmbhkbeakabDoor

/- What the reference's decode, Breaks, List and Check answer. -/
namespace Go.Proofs.YtkgflmbhkbeakabDoor
open Go Go.RowKit Go.Lib
set_option linter.unusedVariables false
end Go.Proofs.YtkgflmbhkbeakabDoor

/- The order of Plains: a total order. -/
namespace Go.Proofs.YtkgflmbhkbeakabDoor
open Go Go.RowKit Go.Lib
set_option linter.unusedVariables false

theorem ci_cases (x y : Int) : (x < y ∧ compareInt x y = -1) ∨ (x = y ∧ compareInt x y = 0) ∨ (y < x ∧ compareInt x y = 1) := by
  unfold compareInt
  by_cases h : x < y
  · left; simp [h]
  · by_cases h2 : x > y
    · right; right; simp [h, h2]
    · right; left
      refine ⟨by omega, by simp [h, h2]⟩
theorem cmp_range (k n : Int) (t : ByteArray) (k' n' : Int) (t' : ByteArray) : -1 ≤ cmpP k n t k' n' t' ∧ cmpP k n t k' n' t' ≤ 1 := by
  unfold cmpP orZ
  have h3 := cb_range t.data.toList t'.data.toList
  rcases ci_cases k k' with ⟨_, h1⟩ | ⟨_, h1⟩ | ⟨_, h1⟩ <;> rw [h1] <;> simp
  rcases ci_cases n n' with ⟨_, h2⟩ | ⟨_, h2⟩ | ⟨_, h2⟩ <;> rw [h2] <;> simp
  omega
theorem cmp_swap (k n : Int) (t : ByteArray) (k' n' : Int) (t' : ByteArray) : cmpP k' n' t' k n t = - cmpP k n t k' n' t' := by
  unfold cmpP orZ
  rcases ci_cases k k' with ⟨a1, h1⟩ | ⟨a1, h1⟩ | ⟨a1, h1⟩ <;> rcases ci_cases k' k with ⟨a2, h2⟩ | ⟨a2, h2⟩ | ⟨a2, h2⟩ <;> rw [h1, h2] <;> simp <;> (try omega)
  rcases ci_cases n n' with ⟨b1, g1⟩ | ⟨b1, g1⟩ | ⟨b1, g1⟩ <;> rcases ci_cases n' n with ⟨b2, g2⟩ | ⟨b2, g2⟩ | ⟨b2, g2⟩ <;> rw [g1, g2] <;> simp <;> (try omega)
  exact cb_swap _ _
theorem cmp_zero (k n : Int) (t : ByteArray) (k' n' : Int) (t' : ByteArray) : cmpP k n t k' n' t' = 0 ↔ samB k n t k' n' t' = true := by
  rw [samB_iff]
  unfold cmpP orZ
  rcases ci_cases k k' with ⟨a1, h1⟩ | ⟨a1, h1⟩ | ⟨a1, h1⟩ <;> rw [h1] <;> simp
  · omega
  · rcases ci_cases n n' with ⟨b1, g1⟩ | ⟨b1, g1⟩ | ⟨b1, g1⟩ <;> rw [g1] <;> simp
    · omega
    · rw [cb_zero]
      constructor
      · intro h; exact ⟨a1, b1, ByteArray.ext (Array.ext' h)⟩
      · rintro ⟨_, _, rfl⟩; rfl
    · omega
  · omega
theorem cmp_trans (k n : Int) (t : ByteArray) (k' n' : Int) (t' : ByteArray) (k2 n2 : Int) (t2 : ByteArray) (h1 : cmpP k n t k' n' t' ≤ 0) (h2 : cmpP k' n' t' k2 n2 t2 ≤ 0) :
    cmpP k n t k2 n2 t2 ≤ 0 ∧ (cmpP k n t k' n' t' < 0 → cmpP k n t k2 n2 t2 < 0) := by
  unfold cmpP orZ at *
  rcases ci_cases k k' with ⟨a1, e1⟩ | ⟨a1, e1⟩ | ⟨a1, e1⟩ <;> rw [e1] at h1 ⊢ <;>
  rcases ci_cases k' k2 with ⟨a2, e2⟩ | ⟨a2, e2⟩ | ⟨a2, e2⟩ <;> rw [e2] at h2 <;>
  rcases ci_cases k k2 with ⟨a3, e3⟩ | ⟨a3, e3⟩ | ⟨a3, e3⟩ <;> rw [e3] <;> simp at h1 h2 ⊢ <;> (try omega)
  rcases ci_cases n n' with ⟨b1, g1⟩ | ⟨b1, g1⟩ | ⟨b1, g1⟩ <;> rw [g1] at h1 ⊢ <;>
  rcases ci_cases n' n2 with ⟨b2, g2⟩ | ⟨b2, g2⟩ | ⟨b2, g2⟩ <;> rw [g2] at h2 <;>
  rcases ci_cases n n2 with ⟨b3, g3⟩ | ⟨b3, g3⟩ | ⟨b3, g3⟩ <;> rw [g3] <;> simp at h1 h2 ⊢ <;> (try omega)
  have := cb_trans _ _ _ h1 h2
  exact ⟨this.1, this.2.1⟩
theorem cmp_num {k n n' : Int} : cmpP k n ⟨#[]⟩ k n' ⟨#[]⟩ = compareInt n n' := by
  unfold cmpP orZ
  rcases ci_cases k k with ⟨a1, h1⟩ | ⟨a1, h1⟩ | ⟨a1, h1⟩
  · omega
  · rw [h1]; simp
    intro h
    rw [h, cb_zero]
  · omega
theorem cmp_text {t t' : ByteArray} : cmpP 3 0 t 3 0 t' = compareBytes t.data.toList t'.data.toList := by
  unfold cmpP orZ
  rcases ci_cases 3 3 with ⟨a1, h1⟩ | ⟨a1, h1⟩ | ⟨a1, h1⟩
  · omega
  · rcases ci_cases 0 0 with ⟨a2, h2⟩ | ⟨a2, h2⟩ | ⟨a2, h2⟩
    · omega
    · rw [h1, h2]; simp
    · omega
  · omega

end Go.Proofs.YtkgflmbhkbeakabDoor

/- What the reference of layer 2 answers: text, Check, Compare. -/
namespace Go.Proofs.YtkgflmbhkbeakabDoor
open Go Go.RowKit Go.Lib
set_option linter.unusedVariables false
end Go.Proofs.YtkgflmbhkbeakabDoor

/- utf8.ValidString at this program: whether a text breaks nowhere. -/
namespace Go.Proofs.YtkgflmbhkbeakabDoor
open Go Go.RowKit Go.Lib Go.Shelf
set_option linter.unusedVariables false
theorem validD_encs : ∀ (rs : List Nat) (t : List UInt8), (∀ r ∈ rs, scal r) → validD (encs rs ++ t) = validD t
  | [], t, _ => rfl
  | r :: rs, t, h => by
    have hr := h r (List.mem_cons_self ..)
    have hp := enc_pos hr
    rw [encs, List.append_assoc, validD_step _ (by intro e; have := congrArg List.length e; rw [List.length_append] at this; simp only [List.length_nil] at this; omega), dec_enc hr, if_neg (by
      rintro ⟨h1, h2⟩
      simp only at h1 h2
      rw [enc_len hr, h1] at h2
      simp at h2)]
    rw [List.drop_left]
    exact validD_encs rs t (fun x hx => h x (List.mem_cons_of_mem _ hx))
theorem validD_brk (s : ByteArray) : validD s.data.toList = decide (brk s.data.toList = s.size) := by
  obtain ⟨t, h1, h2, h3⟩ := text_cases s.data.toList
  have hb := brk_eq h1 h2
  rw [← h3] at hb
  have hlen : s.data.toList.length = s.size := size_toList s
  have hl := congrArg List.length h3
  rw [List.length_append, hlen] at hl
  rw [hb]
  conv => lhs; rw [h3, validD_encs _ _ h1]
  rcases h2 with rfl | h2
  · simp only [List.length_nil] at hl
    rw [decide_eq_true (by omega)]; rfl
  · have hne : t ≠ [] := by rintro rfl; revert h2; decide
    rw [validD_step t hne, if_pos ⟨by rw [h2], by rw [h2]⟩]
    have : 0 < t.length := List.length_pos_iff.2 hne
    rw [decide_eq_false (by omega)]
end Go.Proofs.YtkgflmbhkbeakabDoor

/- What the reference of layer 3 says of pairs and lists: its numbers are the code's. -/
namespace Go.Proofs.YtkgflmbhkbeakabDoor
open Go Go.RowKit Go.Lib
set_option linter.unusedVariables false

def Tiny (L : List A2) : Prop := ∀ q ∈ L, q.1.size ≤ 1048576 ∧ q.2.2.2.size ≤ 1048576
theorem tiny_small {L : List A2} (h : Tiny L) : Small L := fun q hq => by have := h q hq; unfold big; omega
theorem geq_run {P : Program} {t : TypeId} (x y : ByteArray) (b : Bool) (h : (!decide (kc x y < 0)) = b) (w : World) : (binOp .geq t (.string x) (.string y)).run P w = .ok (.bool b) w := by
  rw [← h, ← less_kc]
  simp [binOp, Op.stringOp]

end Go.Proofs.YtkgflmbhkbeakabDoor

/- What vellumref04.Refuse and Check answer: what an insert is refused with. -/
namespace Go.Proofs.YtkgflmbhkbeakabDoor
open Go Go.RowKit Go.Lib
set_option linter.unusedVariables false

theorem Fit.tiny {o : Op5} (h : Fit o) : Tiny o.A := h.A

end Go.Proofs.YtkgflmbhkbeakabDoor

/- What vellumref04.Length answers of inserts. -/
namespace Go.Proofs.YtkgflmbhkbeakabDoor
open Go Go.RowKit Go.Lib
set_option linter.unusedVariables false
end Go.Proofs.YtkgflmbhkbeakabDoor

/- The document's answers for ops: empty, Check, Length, apart. -/
namespace Go.Proofs.YtkgflmbhkbeakabDoor
open Go Go.RowKit Go.Lib
set_option linter.unusedVariables false

/-- Are the fields empty that a kind doesn't have? -/
def emptyB (o : Op5) : Bool :=
  if o.k = 1 then o.c == 0 && decide (o.v = z0)
  else if o.k = 2 then o.c == 0
  else if o.k = 3 then o.t.toList.isEmpty && decide (o.v = z0)
  else if o.k = 4 then o.t.toList.isEmpty && decide (o.v = z0) && o.A.isEmpty
  else false
theorem opE_ref (o : Op5) : opE o = if emptyB o = false then 9 else if o.k = 1 ∨ o.k = 2 then insE o else if o.c < 1 then 9 else if 1099511627776 < o.c then 11 else if o.k = 3 then listE true none o.A else 0 := by
  unfold opE emptyB cntE
  by_cases k1 : o.k = 1
  · rw [if_pos (Or.inl k1), if_pos k1, if_pos (Or.inl k1)]
    by_cases hb : (o.c == 0 && decide (o.v = z0)) = false
    · rw [if_pos hb]
      have : fldE o = 9 := by
        unfold fldE
        rw [if_neg (fun h => h.1 k1), if_pos]
        by_cases hc : o.c = 0
        · by_cases hv : o.v = z0
          · simp [hc, hv] at hb
          · exact Or.inr ⟨k1, Or.inr hv⟩
        · exact Or.inl hc
      unfold insE
      rw [if_pos (by omega), this]
    · rw [if_neg hb]
  · by_cases k2 : o.k = 2
    · rw [if_pos (Or.inr k2), if_neg k1, if_pos k2, if_pos (Or.inr k2)]
      by_cases hb : (o.c == 0) = false
      · rw [if_pos hb]
        have : fldE o = 9 := by
          unfold fldE
          rw [if_neg (fun h => h.2 k2), if_pos]
          exact Or.inl (by simpa using hb)
        unfold insE
        rw [if_pos (by omega), this]
      · rw [if_neg hb]
    · have h12 : ¬ (o.k = 1 ∨ o.k = 2) := by omega
      rw [if_neg h12, if_neg k1, if_neg k2, if_neg h12]
      by_cases k3 : o.k = 3
      · rw [if_pos k3, if_pos k3, if_pos k3]
        cases ht : o.t.toList.isEmpty <;> by_cases hv : o.v = z0 <;> by_cases h1 : o.c < 1 <;> by_cases h2 : 1099511627776 < o.c <;> simp [hv, h1, h2]
      · rw [if_neg k3, if_neg k3, if_neg k3]
        by_cases k4 : o.k = 4
        · rw [if_pos k4, if_pos k4]
          cases ht : o.t.toList.isEmpty <;> by_cases hv : o.v = z0 <;> cases hA : o.A <;> by_cases h1 : o.c < 1 <;> by_cases h2 : 1099511627776 < o.c <;> simp [hv, h1, h2]
        · rw [if_neg k4, if_neg k4, if_pos rfl]

end Go.Proofs.YtkgflmbhkbeakabDoor

/- The document's answers for lists of operations: Bad, Lengths, Canonical. -/
namespace Go.Proofs.YtkgflmbhkbeakabDoor
open Go Go.RowKit Go.Lib
set_option linter.unusedVariables false
end Go.Proofs.YtkgflmbhkbeakabDoor

/- The document's Canonical. -/
namespace Go.Proofs.YtkgflmbhkbeakabDoor
open Go Go.RowKit Go.Lib
set_option linter.unusedVariables false
end Go.Proofs.YtkgflmbhkbeakabDoor

/- Operations as new memory: appends of rows of operations; vellumlaw05.copied. -/
namespace Go.Proofs.YtkgflmbhkbeakabDoor
open Go Go.RowKit Go.Lib
set_option linter.unusedVariables false

theorem cellsO_inv : ∀ (L : List OV) (j : Nat) (u : Value), (cellsO L)[j]? = some u → ∃ i d, L[i]? = some d ∧ ((j = i * 7 ∧ u = .int .i64 d.1) ∨ (j = i * 7 + 1 ∧ u = .string d.2.1) ∨ (j = i * 7 + 2 ∧ u = .int .i64 d.2.2.1.1) ∨ (j = i * 7 + 3 ∧ u = .int .i64 d.2.2.1.2.1) ∨ (j = i * 7 + 4 ∧ u = .string d.2.2.1.2.2) ∨ (j = i * 7 + 5 ∧ u = .int .i64 d.2.2.2.1) ∨ (j = i * 7 + 6 ∧ u = slV d.2.2.2.2))
  | [], j, u, h => by simp [cellsO] at h
  | p :: r, 0, u, h => ⟨0, p, rfl, Or.inl ⟨rfl, by simpa [cellsO] using h.symm⟩⟩
  | p :: r, 1, u, h => ⟨0, p, rfl, Or.inr (Or.inl ⟨rfl, by simpa [cellsO] using h.symm⟩)⟩
  | p :: r, 2, u, h => ⟨0, p, rfl, Or.inr (Or.inr (Or.inl ⟨rfl, by simpa [cellsO] using h.symm⟩))⟩
  | p :: r, 3, u, h => ⟨0, p, rfl, Or.inr (Or.inr (Or.inr (Or.inl ⟨rfl, by simpa [cellsO] using h.symm⟩)))⟩
  | p :: r, 4, u, h => ⟨0, p, rfl, Or.inr (Or.inr (Or.inr (Or.inr (Or.inl ⟨rfl, by simpa [cellsO] using h.symm⟩))))⟩
  | p :: r, 5, u, h => ⟨0, p, rfl, Or.inr (Or.inr (Or.inr (Or.inr (Or.inr (Or.inl ⟨rfl, by simpa [cellsO] using h.symm⟩)))))⟩
  | p :: r, 6, u, h => ⟨0, p, rfl, Or.inr (Or.inr (Or.inr (Or.inr (Or.inr (Or.inr ⟨rfl, by simpa [cellsO] using h.symm⟩)))))⟩
  | p :: r, j + 7, u, h => by
    obtain ⟨i, q, hq, hh⟩ := cellsO_inv r j u (by simpa [cellsO] using h)
    refine ⟨i + 1, q, by simpa using hq, ?_⟩
    rcases hh with ⟨h1, h2⟩ | ⟨h1, h2⟩ | ⟨h1, h2⟩ | ⟨h1, h2⟩ | ⟨h1, h2⟩ | ⟨h1, h2⟩ | ⟨h1, h2⟩
    · exact Or.inl ⟨by omega, h2⟩
    · exact Or.inr (Or.inl ⟨by omega, h2⟩)
    · exact Or.inr (Or.inr (Or.inl ⟨by omega, h2⟩))
    · exact Or.inr (Or.inr (Or.inr (Or.inl ⟨by omega, h2⟩)))
    · exact Or.inr (Or.inr (Or.inr (Or.inr (Or.inl ⟨by omega, h2⟩))))
    · exact Or.inr (Or.inr (Or.inr (Or.inr (Or.inr (Or.inl ⟨by omega, h2⟩)))))
    · exact Or.inr (Or.inr (Or.inr (Or.inr (Or.inr (Or.inr ⟨by omega, h2⟩)))))
/-- append(own, a row of operations ...). -/
theorem wpList_append_rowO {w : World} {ops : Array Oper} {rest : List Oper} {o : Oper} {a : Act} {Q : Exit → Act → World → Prop} (hgd : o.guard = none) (s x : Operand)
    (ho : o.op = .call { callee := .builtin .append, args := #[s, x], argTypes := #[22, 22] })
    (base : Nat) (v : Value) (L : List OV) (hs : a.eval s = v) (hown : OwnO w base v L)
    (u : Value) (M : List OV) (hx : a.eval x = u) (hM : RowO w u M)
    (h63 : L.length + M.length ≤ 33554432) (hbase : base ≤ w.heap.size)
    (h : ∀ v' w', OwnO w' base v' (L ++ M) → w.grownBy w' v.ownBlock → wpList Tryd.prog ops Q rest (a.put o.dst v') w') : wpList Tryd.prog ops Q (o :: rest) a w := by
  obtain ⟨i, z, hi, hz, hz1, hz2, hz3⟩ := infoOp
  obtain ⟨p, cap, rfl, hcap, hnz, hc⟩ := hM
  cases p with
  | none =>
    have hM0 : M = [] := List.eq_nil_of_length_eq_zero (by have := hnz rfl; omega)
    have hcap0 := hnz rfl
    subst hM0
    subst hcap0
    exact wpList_append_own_none hgd s x 22 ho base 37 i 7 Tryd.underlying22 hi v L.length (cellsO L) hs hown hx (h v w (by simpa using hown) ⟨rfl, rfl, rfl, Nat.le_refl _, fun _ _ _ => rfl⟩)
  | some ad =>
    refine wpList_append_own _ hgd s x _ ho base 37 i z 7 88 Tryd.underlying22 hi hz hz1 hz2 hz3 (by decide) v L.length (cellsO L) hs hown ad M.length cap (cellsO M) hx (cellsO_len M) (fun j y hj => ?_) (cellsO_one _) (by unfold maxLen; omega) (by omega) hbase (fun v' w' h1 h2 _ => h v' w' ?_ h2)
    · obtain ⟨i, d, hd, hh⟩ := cellsO_inv M j y hj
      obtain ⟨b, off, hp, h0, h1, h2, h3, h4, h5, h6⟩ := hc i d hd
      obtain rfl := Option.some.inj hp
      rw [Addr.add_lit]
      rcases hh with ⟨rfl, rfl⟩ | ⟨rfl, rfl⟩ | ⟨rfl, rfl⟩ | ⟨rfl, rfl⟩ | ⟨rfl, rfl⟩ | ⟨rfl, rfl⟩ | ⟨rfl, rfl⟩
      · exact h0
      · exact h1
      · exact h2
      · exact h3
      · exact h4
      · exact h5
      · exact h6
    · show w'.ownsRow _ _ _ _ _ _
      rw [cellsO_append, List.length_append]
      exact h1
/-- What operations in memory are, their lists the call's own. -/
def OwD (w : World) (B : Nat) (D : List OV) (E : List Op5) : Prop := All2 (fun (d : OV) (e : Op5) => d.1 = e.k ∧ d.2.1 = e.t ∧ d.2.2.1 = e.v ∧ d.2.2.2.1 = e.c ∧ OwnA w B (slV d.2.2.2.2) e.A) D E
theorem OwD.below {w w' : World} {B : Nat} {D : List OV} {E : List Op5} (h : OwD w B D E) (b : Below w.heap.size w w') : OwD w' B D E := All2.imp (fun d e h => ⟨h.1, h.2.1, h.2.2.1, h.2.2.2.1, owns_below h.2.2.2.2 b⟩) h
theorem OwD.keep {w w' : World} {B : Nat} {D : List OV} {E : List Op5} (h : OwD w B D E) (b : KeepA w w') : OwD w' B D E := All2.imp (fun d e h => ⟨h.1, h.2.1, h.2.2.1, h.2.2.2.1, keepA_own h.2.2.2.2 b⟩) h
theorem OwD.weaken {w : World} {B B' : Nat} {D : List OV} {E : List Op5} (h : OwD w B D E) (hb : B' ≤ B) : OwD w B' D E := All2.imp (fun d e h => ⟨h.1, h.2.1, h.2.2.1, h.2.2.2.1, own_weaken h.2.2.2.2 hb⟩) h
theorem OwD.re {w : World} {B : Nat} {D : List OV} {E : List Op5} (h : OwD w B D E) : ReD w D E := All2.imp (fun d e h => ⟨h.1, h.2.1, h.2.2.1, h.2.2.2.1, own_RN h.2.2.2.2⟩) h
/-- A list of operations, the call's own. -/
def CoO (w : World) (B : Nat) (v : Value) (E : List Op5) : Prop := ∃ D, OwnO w B v D ∧ OwD w B D E
theorem CoO.below {w w' : World} {B : Nat} {v : Value} {E : List Op5} (h : CoO w B v E) (b : Below w.heap.size w w') : CoO w' B v E := by
  obtain ⟨D, h1, h2⟩ := h
  exact ⟨D, owns_below h1 b, h2.below b⟩
theorem CoO.re {w : World} {B : Nat} {v : Value} {E : List Op5} (h : CoO w B v E) : ReO w v E := by
  obtain ⟨D, h1, h2⟩ := h
  exact ⟨D, own_rowO h1, h2.re⟩

set_option maxHeartbeats 2000000 in
set_option maxRecDepth 100000 in
theorem copied5_any (v : Value) (E : List Op5) (w : World) (hv : ReO w v E) (hl : E.length ≤ 1048576) (hA : ∀ e ∈ E, e.A.length ≤ 1048576) :
    Calls Tryd.prog 8 #[v] w fun r w' => ∃ v', r = .returned v' ∧ CoO w' w.heap.size v' E ∧ Below w.heap.size w w' := by
  obtain ⟨D0, hrow, hre⟩ := hv
  have hDE := forall2_len hre
  obtain ⟨n, hn⟩ : ∃ n, D0.length = n := ⟨_, rfl⟩
  obtain ⟨p, cap, rfl, hcap, hnz, hc⟩ := hrow
  have HC : Hid (∀ (j : Nat) (d : OV), D0[j]? = some d → ∃ b off, p = some ⟨b, off, none⟩ ∧ OpAt w b (off + j * 7) d) := hc
  have HN : Hid (D0.length = n ∧ E.length = n) := ⟨hn, by rw [← hDE, hn]⟩
  have HE : Hid (ReD w D0 E ∧ ∀ e ∈ E, e.A.length ≤ 1048576) := ⟨hre, hA⟩
  have hl : n ≤ 1048576 := by rw [← hn, hDE]; exact hl
  rw [hn] at hcap ⊢
  clear hc hn hDE hre hA hnz
  have o0 := own_emptyO w w.heap.size (Nat.le_refl _)
  have b0 := (Below.refl w.heap.size w).alloc (Nat.le_refl _) (.cells #[] 37)
  obtain ⟨W0, hW0⟩ : ∃ W, W = w.alloc (.cells #[] 37) := ⟨_, rfl⟩
  obtain ⟨v0, hv0⟩ : ∃ v0 : Value, v0 = .slice (some ⟨w.heap.size, 0, none⟩) 0 0 := ⟨_, rfl⟩
  rw [← hW0, ← hv0] at o0
  rw [← hW0] at b0
  go_enter Tryd.func8, Tryd.ntmps8
  go_wp2
  rw [← hW0, ← hv0]
  clear hW0 hv0
  go_loopw [3, 9] (fun o i wr => ∃ (k : Nat) (D : List OV), k ≤ n ∧ i = .int .i64 k ∧ D.length = k ∧ OwnO wr w.heap.size o D ∧ OwD wr w.heap.size D (E.take k) ∧ Below w.heap.size w wr) (fun _ i _ => n - (RowKit.intOf i).toNat)
  case atStart => exact ⟨0, [], Nat.zero_le _, rfl, rfl, o0, .nil, b0⟩
  case round =>
    clear o0 b0
    obtain ⟨k, D, hk, rfl, hDl, hown, hsp, hbw⟩ := hrel
    by_cases hlt : k < n
    · have hltI : (k : Int) < n := by omega
      obtain ⟨d, hd⟩ : ∃ d, D0[k]? = some d := ⟨_, List.getElem?_eq_getElem (by rw [HN.out.1]; exact hlt)⟩
      obtain ⟨e, he, hr⟩ := forall2_get HE.out.1 k d hd
      obtain ⟨b, off, rfl, hp⟩ := HC.out k d hd
      have hpw := hp.below hbw
      obtain ⟨c0, c1, c2, c3, c4, c5, c6⟩ := hpw
      have hrw := hr.2.2.2.2.below hbw
      have HT : Hid (E.take (k + 1) = E.take k ++ [e]) := by show _ = _; rw [List.take_add_one, he]; rfl
      have HR : Hid (d.1 = e.k ∧ d.2.1 = e.t ∧ d.2.2.1 = e.v ∧ d.2.2.2.1 = e.c) := ⟨hr.1, hr.2.1, hr.2.2.1, hr.2.2.2.1⟩
      have HO : Hid (OwnO wr w.heap.size u3 D ∧ OwD wr w.heap.size D (E.take k)) := ⟨hown, hsp⟩
      have hAl : e.A.length ≤ 1048576 := HE.out.2 e (List.mem_of_getElem? he)
      clear hd he hr hp hown hsp
      obtain ⟨dk, dt, ⟨dx, dn, du⟩, dc, ds⟩ := d
      obtain ⟨dp, dl, dcap⟩ := ds
      simp only [slV] at c0 c1 c2 c3 c4 c5 c6 hrw
      obtain ⟨W1, hW1⟩ : ∃ W, W = wr.alloc (.cells #[.int .i64 dk, .string dt, .int .i64 dx, .int .i64 dn, .string du, .int .i64 dc, .slice dp dl dcap] 37) := ⟨_, rfl⟩
      have D1 : OpAt W1 wr.heap.size 0 (dk, dt, (dx, dn, du), dc, dp, dl, dcap) := by rw [hW1]; exact ⟨by simp, by simp, by simp, by simp, by simp, by simp, by simp⟩
      have b1 : Below wr.heap.size wr W1 := by rw [hW1]; exact (Below.refl _ _).alloc (Nat.le_refl _) _
      have s1 : W1.heap.size = wr.heap.size + 1 := by rw [hW1]; simp
      have f1 : W1.frozen? ⟨wr.heap.size, 6, none⟩ = false := by rw [hW1]; simp
      have hr1 := hrw.below b1
      go_upto_region 5 with fail
      rw [← hW1]
      clear hW1 hrw
      have be := (Below.refl W1.heap.size W1).alloc (Nat.le_refl _) (.cells #[] 48)
      have oE := own_empty' W1 W1.heap.size (Nat.le_refl _)
      have hr2 := hr1.below be
      have q6 := (D1.below be).c6
      rw [Nat.zero_add] at q6
      simp only [slV] at q6
      have HR2 : Hid (RN (W1.alloc (.cells #[] 48)) (.slice dp dl dcap) e.A) := hr2
      have HD1 : Hid (OpAt W1 wr.heap.size 0 (dk, dt, (dx, dn, du), dc, dp, dl, dcap) ∧ W1.frozen? ⟨wr.heap.size, 6, none⟩ = false ∧ Below wr.heap.size wr W1 ∧ W1.heap.size = wr.heap.size + 1) := ⟨D1, f1, b1, s1⟩
      have n1 : ¬ wr.heap.size = W1.heap.size := by omega
      have n2 : ¬ W1.heap.size = wr.heap.size := by omega
      have hge2 : Hid (∀ j, (Value.slice (some ⟨W1.heap.size, 0, none⟩) 0 0).ownBlock = some j → W1.heap.size ≤ j) := fun j hj => (owns_block oE j hj).1
      clear f1 D1 hr1 c0 c1 c2 c3 c4 c5 c6 hr2 b1 s1
      have hL0 : ([] : List A2).length + e.A.length ≤ 2097152 := by simp; omega
      go_upto_region 6 with (at_builtin; refine wpList_append_row rfl (.tmp 13) (.tmp 15) rfl W1.heap.size (.slice (some ⟨W1.heap.size, 0, none⟩) 0 0) [] rfl oE (.slice dp dl dcap) e.A rfl HR2.out.row HR2.out.nz hL0 be.size ?_; intro v9 w9 own9 gr9; obtain ⟨p9, c9', rfl⟩ := own_slice own9; have b9 : Below W1.heap.size W1 w9 := be.trans (((Below.refl _ _).grown gr9 be.size (fun j hj => hge2.out j hj)).mono (Nat.le_refl _)); have D9 := HD1.out.1.below b9; have f9 := (b9.frozen (p := ⟨wr.heap.size, 6, none⟩) HD1.out.1.lt).trans HD1.out.2.1; obtain ⟨q0, q1, q2, q3, q4, q5, q9⟩ := D9; simp only [Nat.zero_add, slV] at q0 q1 q2 q3 q4 q5 q9; have O9 : Hid (OwnA w9 W1.heap.size (.slice p9 ([] ++ e.A).length c9') ([] ++ e.A)) := own9; clear own9 gr9 q6 oE be hge2 HR2 hL0)
      obtain ⟨W6, hW6⟩ : ∃ W, W = w9.setCell ⟨wr.heap.size, 6, none⟩ (.slice p9 e.A.length c9') := ⟨_, rfl⟩
      have hq : ∀ i, i ≠ 6 → W6.cell? ⟨wr.heap.size, i, none⟩ = w9.cell? ⟨wr.heap.size, i, none⟩ := fun i hi => by
        rw [hW6]; exact World.cell?_setCell_other _ _ _ _ (fun e => by cases e; omega)
      have r0 := (hq 0 (by decide)).trans q0
      have r1 := (hq 1 (by decide)).trans q1
      have r2 := (hq 2 (by decide)).trans q2
      have r3 := (hq 3 (by decide)).trans q3
      have r4 := (hq 4 (by decide)).trans q4
      have r5 := (hq 5 (by decide)).trans q5
      have r6 : W6.cell? ⟨wr.heap.size, 6, none⟩ = some (.slice p9 e.A.length c9') := by rw [hW6]; exact World.cell?_setCell_same' _ _ _ (by rw [q9]; rfl)
      have b5 : Below wr.heap.size wr w9 := HD1.out.2.2.1.trans (b9.mono (by have := HD1.out.2.2.2; omega))
      have b6 : Below wr.heap.size wr W6 := by rw [hW6]; exact b5.setCell (Nat.le_refl _) _
      have O6 : OwnA W6 w.heap.size (.slice p9 e.A.length c9') e.A := by
        have h1 := ownsRow_setCell_below O9.out (a := ⟨wr.heap.size, 6, none⟩) (by have := HD1.out.2.2.2; show wr.heap.size < W1.heap.size; omega) (.slice p9 e.A.length c9')
        have h2 := own_weaken h1 (B' := w.heap.size) (by have := hbw.size; have := HD1.out.2.2.2; omega)
        rw [hW6]
        exact h2
      rw [← hW6]
      clear hW6 hq q0 q1 q2 q3 q4 q5 q9 f9 b5 b9 O9 n1 n2
      have ba : Below W6.heap.size W6 (W6.alloc (.cells #[.int .i64 dk, .string dt, .int .i64 dx, .int .i64 dn, .string du, .int .i64 dc, .slice p9 e.A.length c9'] 37)) := (Below.refl _ _).alloc (Nat.le_refl _) _
      have b7 := b6.trans (ba.mono b6.size)
      have HO7 : Hid (OwnO (W6.alloc (.cells #[.int .i64 dk, .string dt, .int .i64 dx, .int .i64 dn, .string du, .int .i64 dc, .slice p9 e.A.length c9'] 37)) w.heap.size u3 D ∧ OpAt (W6.alloc (.cells #[.int .i64 dk, .string dt, .int .i64 dx, .int .i64 dn, .string du, .int .i64 dc, .slice p9 e.A.length c9'] 37)) W6.heap.size 0 (dk, dt, (dx, dn, du), dc, p9, e.A.length, c9')) := ⟨owns_below HO.out.1 b7, ⟨by simp, by simp, by simp, by simp, by simp, by simp, by simp⟩⟩
      have HP7 : Hid (OwD (W6.alloc (.cells #[.int .i64 dk, .string dt, .int .i64 dx, .int .i64 dn, .string du, .int .i64 dc, .slice p9 e.A.length c9'] 37)) w.heap.size (D ++ [(dk, dt, (dx, dn, du), dc, p9, e.A.length, c9')]) (E.take (k + 1))) := by
        show OwD _ _ _ _
        rw [HT.out]
        exact forall2_append (HO.out.2.below b7) (.cons ⟨HR.out.1, HR.out.2.1, HR.out.2.2.1, HR.out.2.2.2, owns_below O6 ba⟩ .nil)
      have hge : Hid (∀ j, u3.ownBlock = some j → w.heap.size ≤ j) := fun j hj => (owns_block HO.out.1 j hj).1
      have bw7 := hbw.trans (b7.mono hbw.size)
      have hlen : D.length ≤ 33554432 := by omega
      clear O6 ba b7 b6 HO HT HR HD1
      go_wp2_with (at_builtin; refine wpList_append_ops rfl (.tmp 18) (.tmp 20) rfl w.heap.size u3 D rfl HO7.out.1 W6.heap.size 1 _ rfl HO7.out.2 hlen bw7.size ?_; intro v8 w8 own8 gr8 hat8; have hsp8 : Hid (OwD w8 w.heap.size _ _) := HP7.out.keep (keepA_grownO HO7.out.1 gr8); have b8 := bw7.grown gr8 bw7.size (fun j hj => hge.out j hj); have HO8 : Hid (OwnO w8 w.heap.size v8 _) := own8; clear own8 gr8 hat8 HO7 HP7)
      go_roundw
      case rel => exact ⟨k + 1, _, by omega, by go_num, by simp [hDl], HO8.out, hsp8.out, b8⟩
      case measure => simp [RowKit.intOf]; omega
    · have hltI : ¬ (k : Int) < n := by omega
      have hE : E.take k = E := List.take_of_length_le (by rw [HN.out.2]; omega)
      rw [hE] at hsp
      have HX : Hid (CoO wr w.heap.size u3 E) := ⟨D, hown, hsp⟩
      clear hown hsp
      go_wp2
      go_ret
      exact ⟨_, rfl, HX.out, hbw⟩
end Go.Proofs.YtkgflmbhkbeakabDoor

/- The errors' numbers: what vellumnum.list and vellumnum.Num answer where all nineteen sentinels lie as laid. -/
namespace Go.Proofs.YtkgflmbhkbeakabDoor
open Go Go.RowKit
set_option linter.unusedVariables false

/-- All nineteen. -/
def all19 : List Nat := List.range 19
abbrev Sent (a : Nat → Addr) (w : World) : Prop := Er all19 a w
theorem in19 {i : Nat} (h : i < 19) : i ∈ all19 := List.mem_range.2 h
def errA (a : Nat → Addr) : Array Value := #[errV a 0, errV a 1, errV a 2, errV a 3, errV a 4, errV a 5, errV a 6, errV a 7, errV a 8, errV a 9, errV a 10, errV a 11, errV a 12, errV a 13, errV a 14, errV a 15, errV a 16, errV a 17, errV a 18]

theorem wl_build (a : Nat → Addr) {ops : Array Oper} {rest : List Oper} {o : Oper} {A : Act} {w : World} {Q : Exit → Act → World → Prop} (hg : o.guard = none) (parts : Array (Nat × Operand)) (ho : o.op = .build 60 parts)
    (hp : (parts.map fun (i, x) => (i, A.eval x)) = #[(0, errV a 0), (1, errV a 1), (2, errV a 2), (3, errV a 3), (4, errV a 4), (5, errV a 5), (6, errV a 6), (7, errV a 7), (8, errV a 8), (9, errV a 9), (10, errV a 10), (11, errV a 11), (12, errV a 12), (13, errV a 13), (14, errV a 14), (15, errV a 15), (16, errV a 16), (17, errV a 17), (18, errV a 18)])
    (h : wpList Tryd.prog ops Q rest (A.put o.dst (.agg (errA a))) w) : wpList Tryd.prog ops Q (o :: rest) A w := by
  have hb : Tryd.prog.built 60 (parts.map fun (i, x) => (i, A.eval x)).toList = some (errA a) := by rw [hp]; kernel_rfl
  refine wpList_build hg 60 parts ho (by rw [hb]; rfl) ?_
  rw [hb]; exact h

theorem alloc_setRow (w : World) (old cs : Array Value) (t : TypeId) : (w.alloc (.cells old t)).setRow w.heap.size cs = w.alloc (.cells cs t) := by
  have : ((w.heap.push (.cells old t)).modify w.heap.size fun | .cells _ t f => .cells cs t f | o => o) = w.heap.push (.cells cs t) := by
    apply Array.ext
    · simp
    · intro i h1 h2
      rw [Array.getElem_modify]
      by_cases hi : w.heap.size = i
      · subst hi; simp
      · rw [if_neg hi]
        have : i < w.heap.size := by simp at h2; omega
        simp [Array.getElem_push, this]
  show { w with heap := (w.heap.push (.cells old t)).modify w.heap.size _ } = { w with heap := w.heap.push _ }
  rw [← this]; rfl

theorem wl_store (a : Nat → Addr) {ops : Array Oper} {rest : List Oper} {o : Oper} {A : Act} {w : World} {Q : Exit → Act → World → Prop} {old : Array Value} (hg : o.guard = none) (x y : Operand) (ho : o.op = .store 60 x y)
    (hx : A.eval x = .pointer (some ⟨w.heap.size, 0, none⟩)) (hy : A.eval y = .agg (errA a)) (hold : old.size = 19)
    (h : wpList Tryd.prog ops Q rest (A.put o.dst undef) (w.alloc (.cells (errA a) 60))) : wpList Tryd.prog ops Q (o :: rest) A (w.alloc (.cells old 60)) := by
  refine wpList_store_row hg 60 x y ho w.heap.size (errA a) hx hy 60 old (by show (w.heap.push _)[w.heap.size]? = _; simp) (by kernel_rfl) (by rw [hold]; rfl) (by kernel_rfl) ?_
  rw [alloc_setRow]; exact h

set_option maxHeartbeats 400000 in
set_option maxRecDepth 100000 in
theorem list_any (a : Nat → Addr) (w : World) (h : ∀ i, i < 19 → w.cell? ⟨[2, 3, 4, 5, 6, 7, 8, 9, 0, 10, 1, 11, 12, 13, 14, 15, 16, 17, 18].getD i 0, 0, none⟩ = some (errV a i)) :
    Calls Tryd.prog 18 #[] w fun e w' => e = .returned (.agg (errA a)) ∧ Below w.heap.size w w' := by
  have h0 : w.cell? ⟨2, 0, none⟩ = some (errV a 0) := h 0 (by omega)
  have h1 : w.cell? ⟨3, 0, none⟩ = some (errV a 1) := h 1 (by omega)
  have h2 : w.cell? ⟨4, 0, none⟩ = some (errV a 2) := h 2 (by omega)
  have h3 : w.cell? ⟨5, 0, none⟩ = some (errV a 3) := h 3 (by omega)
  have h4 : w.cell? ⟨6, 0, none⟩ = some (errV a 4) := h 4 (by omega)
  have h5 : w.cell? ⟨7, 0, none⟩ = some (errV a 5) := h 5 (by omega)
  have h6 : w.cell? ⟨8, 0, none⟩ = some (errV a 6) := h 6 (by omega)
  have h7 : w.cell? ⟨9, 0, none⟩ = some (errV a 7) := h 7 (by omega)
  have h8 : w.cell? ⟨0, 0, none⟩ = some (errV a 8) := h 8 (by omega)
  have h9 : w.cell? ⟨10, 0, none⟩ = some (errV a 9) := h 9 (by omega)
  have h10 : w.cell? ⟨1, 0, none⟩ = some (errV a 10) := h 10 (by omega)
  have h11 : w.cell? ⟨11, 0, none⟩ = some (errV a 11) := h 11 (by omega)
  have h12 : w.cell? ⟨12, 0, none⟩ = some (errV a 12) := h 12 (by omega)
  have h13 : w.cell? ⟨13, 0, none⟩ = some (errV a 13) := h 13 (by omega)
  have h14 : w.cell? ⟨14, 0, none⟩ = some (errV a 14) := h 14 (by omega)
  have h15 : w.cell? ⟨15, 0, none⟩ = some (errV a 15) := h 15 (by omega)
  have h16 : w.cell? ⟨16, 0, none⟩ = some (errV a 16) := h 16 (by omega)
  have h17 : w.cell? ⟨17, 0, none⟩ = some (errV a 17) := h 17 (by omega)
  have h18 : w.cell? ⟨18, 0, none⟩ = some (errV a 18) := h 18 (by omega)
  have z0 : 2 < w.heap.size := lt_of_cell h0
  have z1 : 3 < w.heap.size := lt_of_cell h1
  have z2 : 4 < w.heap.size := lt_of_cell h2
  have z3 : 5 < w.heap.size := lt_of_cell h3
  have z4 : 6 < w.heap.size := lt_of_cell h4
  have z5 : 7 < w.heap.size := lt_of_cell h5
  have z6 : 8 < w.heap.size := lt_of_cell h6
  have z7 : 9 < w.heap.size := lt_of_cell h7
  have z8 : 0 < w.heap.size := lt_of_cell h8
  have z9 : 10 < w.heap.size := lt_of_cell h9
  have z10 : 1 < w.heap.size := lt_of_cell h10
  have z11 : 11 < w.heap.size := lt_of_cell h11
  have z12 : 12 < w.heap.size := lt_of_cell h12
  have z13 : 13 < w.heap.size := lt_of_cell h13
  have z14 : 14 < w.heap.size := lt_of_cell h14
  have z15 : 15 < w.heap.size := lt_of_cell h15
  have z16 : 16 < w.heap.size := lt_of_cell h16
  have z17 : 17 < w.heap.size := lt_of_cell h17
  have z18 : 18 < w.heap.size := lt_of_cell h18
  clear h
  go_enter Tryd.func18, Tryd.ntmps18
  go_wp2_with (first | (refine wl_build a rfl _ rfl (by kernel_rfl) ?_) | (refine wl_store a rfl _ _ rfl (by kernel_rfl) (by kernel_rfl) (by kernel_rfl) ?_))
  have hl := run_loadVar_new (P := Tryd.prog) w 60 (errA a) 19 25 Tryd.underlying60 (by kernel_rfl)
  refine bodyPost_ret (v := .agg (errA a)) ?_ rfl ⟨rfl, (Below.refl _ _).alloc (Nat.le_refl _) _⟩
  simp only [results, Tryd.results18]
  simp [asAddr, Act.put, hl]

theorem errA_get (a : Nat → Addr) (k : Nat) (hk : k < 19) : (errA a)[k]? = some (errV a k) := by
  have e : errA a = ((List.range 19).map (errV a)).toArray := rfl
  rw [e]
  simp [hk]

theorem index_arr {A : Array Value} {k : Nat} {v : Value} (hk : k < 19) (hA : A[k]? = some v) (w : World) : (Instr.index 60 (.agg A) (.int .i64 k)).run Tryd.prog w = .ok v w := by
  obtain ⟨i, hi, hs⟩ := Option.map_eq_some_iff.1 (show (Tryd.prog.info? 25).map (·.size) = some 1 by kernel_rfl)
  have hk2 : (0 : Int) ≤ k ∧ (k : Int) < 19 := by omega
  simp [Instr.index, run_underlying Tryd.underlying60, asIntOf, hk2, sizeOf, typeInfo, hi, hs, part, hA]
  omega

theorem num_nil (w : World) : Calls Tryd.prog 9 #[.nilIface] w fun e w' => e = .returned (.int .i64 0) ∧ w' = w := by
  go_enter Tryd.func9, Tryd.ntmps9
  go_wp2
  go_ret
  exact ⟨rfl, rfl⟩

set_option maxHeartbeats 400000 in
theorem num_err {a : Nat → Addr} {w : World} (h : Sent a w) (n : Nat) (hn : n < 19) :
    Calls Tryd.prog 9 #[errV a n] w fun e w' => e = .returned (.int .i64 (n + 1)) ∧ Below w.heap.size w w' := by
  have hcell : ∀ i, i < 19 → w.cell? ⟨[2, 3, 4, 5, 6, 7, 8, 9, 0, 10, 1, 11, 12, 13, 14, 15, 16, 17, 18].getD i 0, 0, none⟩ = some (errV a i) := fun i hi => h.cell i (in19 hi)
  have hnil := eql_nil a n
  have hsame := eql_same a n
  obtain ⟨A, hA⟩ : ∃ A, A = errA a := ⟨_, rfl⟩
  have hAs : A.size = 19 := by rw [hA]; rfl
  have hAg : ∀ k, k < 19 → A[k]? = some (errV a k) := by rw [hA]; exact errA_get a
  go_enter Tryd.func9, Tryd.ntmps9
  go_wp2_with (go_at_call 18; refine (list_any a _ hcell).mono ?_; rintro e w1 ⟨rfl, hb⟩; have h1 := h.below hb; clear hcell h hnil; rw [← hA]; clear hA)
  go_loop [8] (fun i => ∃ k : Nat, k ≤ n ∧ i = .int .i64 k) (fun i => 19 - (intOf i).toNat)
  case atStart => exact ⟨0, Nat.zero_le _, rfl⟩
  case round =>
    obtain ⟨k, hk, rfl⟩ := hrel
    have hAk := hAg k (by omega)
    have hk9 : (k : Int) < 19 := by omega
    have hix := index_arr (A := A) (by omega : k < 19) hAk
    clear hAg hAk
    by_cases hlt : k < n
    · have he := eql_other h1 n k (in19 hn) (in19 (by omega)) (by omega)
      clear h1 hsame
      go_wp2
      go_round
      case rel => exact ⟨k + 1, by omega, by go_num⟩
      case measure => simp [intOf]; omega
    · obtain rfl : k = n := by omega
      clear h1
      go_wp2
      go_ret
      exact ⟨rfl, hb⟩

theorem num_of {a : Nat → Addr} {w : World} (h : Sent a w) (e : Nat) (he : e ≤ 19) :
    Calls Tryd.prog 9 #[errOf a e] w fun r w' => r = .returned (.int .i64 e) ∧ Below w.heap.size w w' := by
  cases e with
  | zero => exact (num_nil w).mono fun r w' ⟨h1, h2⟩ => ⟨h1, by rw [h2]; exact Below.refl _ _⟩
  | succ n => rw [errOf_succ]; exact num_err h n (by omega)
end Go.Proofs.YtkgflmbhkbeakabDoor

/- Of all lists of operations vellumlaw05.OpsPlays answers true. -/
namespace Go.Proofs.YtkgflmbhkbeakabDoor
open Go Go.RowKit Go.Lib
set_option linter.unusedVariables false

theorem opE_le (o : Op5) : opE o ≤ 19 := by
  have hl : ∀ (nulls : Bool) (L : List A2) (pv : Option ByteArray), listE nulls pv L ≤ 10 := fun nulls L => by
    induction L with
    | nil => intro pv; rw [listE]; omega
    | cons q r ih =>
      intro pv
      rw [listE]
      split
      · split
        · omega
        · split
          · exact ih _
          · omega
      · unfold pairE
        split
        · omega
        · split
          · omega
          · exact chk_le _ _ _
  unfold opE
  split
  · have := insE_le o (fun L => hl false L none); omega
  · have hc : cntE o ≤ 11 := by unfold cntE; split; omega; split <;> omega
    split
    · split
      · omega
      · have := hl true o.A none; omega
    · split
      · split <;> omega
      · omega
theorem badP_le (E : List Op5) : (badP E).2 ≤ 19 := by
  rcases bad_cases E with ⟨_, h⟩ | ⟨k, o, _, _, _, h⟩
  · rw [h]; omega
  · rw [h]; exact opE_le o
theorem sumL_le : ∀ (E : List Op5) (b r : Int), (sumL b r E).2.2 ≤ 19
  | [], b, r => Nat.zero_le _
  | o :: L, b, r => by
    rw [sumL]
    split
    · simp only []; omega
    · exact sumL_le L _ _
theorem lensL_le (E : List Op5) : (lensL E).2.2 ≤ 19 := by
  unfold lensL
  split
  · exact badP_le E
  · exact sumL_le E 0 0

end Go.Proofs.YtkgflmbhkbeakabDoor

/- Lengths of lists, one behind the other. -/
namespace Go.Proofs.YtkgflmbhkbeakabDoor
open Go Go.RowKit Go.Lib
set_option linter.unusedVariables false

def SB : List Op5 → Int
  | [] => 0
  | o :: r => baseO o + SB r
def SR : List Op5 → Int
  | [] => 0
  | o :: r => resO o + SR r
theorem SB_app : ∀ A B : List Op5, SB (A ++ B) = SB A + SB B
  | [], B => by simp [SB]
  | o :: r, B => by simp only [List.cons_append, SB, SB_app r B]; omega
theorem SR_app : ∀ A B : List Op5, SR (A ++ B) = SR A + SR B
  | [], B => by simp [SR]
  | o :: r, B => by simp only [List.cons_append, SR, SR_app r B]; omega
abbrev GoodL (E : List Op5) : Prop := ∀ o ∈ E, opE o = 0 ∧ Fit o
theorem SB_pos : ∀ {E : List Op5}, GoodL E → 0 ≤ SB E ∧ 0 ≤ SR E
  | [], _ => ⟨Int.le_refl _, Int.le_refl _⟩
  | o :: r, h => by
    obtain ⟨h1, h2⟩ := h o (List.mem_cons_self ..)
    have hr := SB_pos (E := r) fun x hx => h x (List.mem_cons_of_mem _ hx)
    have hb := base_range h1 h2
    have hc := res_range h1 h2
    simp only [SB, SR]
    omega
theorem sumL_eq : ∀ (E : List Op5) (b r : Int), GoodL E → b ≤ 1099511627776 → r ≤ 1099511627776 → sumL b r E = if b + SB E ≤ 1099511627776 ∧ r + SR E ≤ 1099511627776 then (b + SB E, r + SR E, 0) else (0, 0, 11)
  | [], b, r, _, h1, h2 => by
    have e1 : SB [] = 0 := rfl
    have e2 : SR [] = 0 := rfl
    rw [sumL, e1, e2, Int.add_zero, Int.add_zero, if_pos ⟨h1, h2⟩]
  | o :: L, b, r, hg, h1, h2 => by
    have hr := SB_pos (E := L) fun x hx => hg x (List.mem_cons_of_mem _ hx)
    have e1 : SB (o :: L) = baseO o + SB L := rfl
    have e2 : SR (o :: L) = resO o + SR L := rfl
    rw [sumL, e1, e2]
    by_cases h : 1099511627776 < b + baseO o ∨ 1099511627776 < r + resO o
    · rw [if_pos h, if_neg (by omega)]
    · rw [if_neg h, sumL_eq L _ _ (fun x hx => hg x (List.mem_cons_of_mem _ hx)) (by omega) (by omega)]
      rw [show b + baseO o + SB L = b + (baseO o + SB L) by omega, show r + resO o + SR L = r + (resO o + SR L) by omega]
theorem lensL_good {E : List Op5} (h : GoodL E) : lensL E = if SB E ≤ 1099511627776 ∧ SR E ≤ 1099511627776 then (SB E, SR E, 0) else (0, 0, 11) := by
  unfold lensL
  rw [if_neg (by simpa using bad_zero.2 fun o ho => (h o ho).1), sumL_eq E 0 0 h (by omega) (by omega), Int.zero_add, Int.zero_add]
/-- Two lists' lengths and those of both, one behind the other. -/
theorem lens_app {A B : List Op5} (fA : FitL A) (fB : FitL B) :
    (((lensL A).2.2 ≠ 0 ∨ (lensL B).2.2 ≠ 0) → (lensL (A ++ B)).1 = 0 ∧ (lensL (A ++ B)).2.1 = 0 ∧ (lensL (A ++ B)).2.2 ≠ 0) ∧
    ((lensL A).2.2 = 0 → (lensL B).2.2 = 0 →
      (0 ≤ (lensL A).1 ∧ (lensL A).1 ≤ 1099511627776 ∧ 0 ≤ (lensL A).2.1 ∧ (lensL A).2.1 ≤ 1099511627776) ∧
      (0 ≤ (lensL B).1 ∧ (lensL B).1 ≤ 1099511627776 ∧ 0 ≤ (lensL B).2.1 ∧ (lensL B).2.1 ≤ 1099511627776) ∧
      lensL (A ++ B) = if (lensL A).1 + (lensL B).1 ≤ 1099511627776 ∧ (lensL A).2.1 + (lensL B).2.1 ≤ 1099511627776 then ((lensL A).1 + (lensL B).1, (lensL A).2.1 + (lensL B).2.1, 0) else (0, 0, 11)) := by
  by_cases hA : ∀ o ∈ A, opE o = 0
  · by_cases hB : ∀ o ∈ B, opE o = 0
    · have gA : GoodL A := fun o ho => ⟨hA o ho, fA o ho⟩
      have gB : GoodL B := fun o ho => ⟨hB o ho, fB o ho⟩
      have gC : GoodL (A ++ B) := fun o ho => by
        rcases List.mem_append.1 ho with h | h
        · exact gA o h
        · exact gB o h
      have pA := SB_pos gA
      have pB := SB_pos gB
      have eC := lensL_good gC
      rw [SB_app, SR_app] at eC
      rw [lensL_good gA, lensL_good gB, eC]
      by_cases ha : SB A ≤ 1099511627776 ∧ SR A ≤ 1099511627776
      · by_cases hb : SB B ≤ 1099511627776 ∧ SR B ≤ 1099511627776
        · rw [if_pos ha, if_pos hb]
          refine ⟨fun h => ?_, fun _ _ => ⟨⟨pA.1, ha.1, pA.2, ha.2⟩, ⟨pB.1, hb.1, pB.2, hb.2⟩, rfl⟩⟩
          simp at h
        · rw [if_pos ha, if_neg hb, if_neg (by omega)]
          refine ⟨fun _ => ⟨rfl, rfl, by simp⟩, fun _ h => ?_⟩
          simp at h
      · have hn : ¬ (SB A + SB B ≤ 1099511627776 ∧ SR A + SR B ≤ 1099511627776) := by omega
        rw [if_neg ha, if_neg hn]
        refine ⟨fun _ => ⟨rfl, rfl, by simp⟩, fun h => ?_⟩
        simp at h
    · have hb : (badP B).2 ≠ 0 := fun h => hB (bad_zero.1 h)
      have hc : (badP (A ++ B)).2 ≠ 0 := fun h => hB fun o ho => bad_zero.1 h o (List.mem_append_right _ ho)
      have e1 : lensL B = (0, 0, (badP B).2) := by unfold lensL; rw [if_pos hb]
      have e2 : lensL (A ++ B) = (0, 0, (badP (A ++ B)).2) := by unfold lensL; rw [if_pos hc]
      rw [e1, e2]
      exact ⟨fun _ => ⟨rfl, rfl, hc⟩, fun _ h => absurd h hb⟩
  · have hb : (badP A).2 ≠ 0 := fun h => hA (bad_zero.1 h)
    have hc : (badP (A ++ B)).2 ≠ 0 := fun h => hA fun o ho => bad_zero.1 h o (List.mem_append_left _ ho)
    have e1 : lensL A = (0, 0, (badP A).2) := by unfold lensL; rw [if_pos hb]
    have e2 : lensL (A ++ B) = (0, 0, (badP (A ++ B)).2) := by unfold lensL; rw [if_pos hc]
    rw [e1, e2]
    exact ⟨fun _ => ⟨rfl, rfl, hc⟩, fun h => absurd h hb⟩
end Go.Proofs.YtkgflmbhkbeakabDoor

/- Of all lists of operations vellumlaw05.OpsSums answers true. -/
namespace Go.Proofs.YtkgflmbhkbeakabDoor
open Go Go.RowKit Go.Lib
set_option linter.unusedVariables false

theorem fitL_app {A B : List Op5} (hA : FitL A) (hB : FitL B) : FitL (A ++ B) := fun o ho => by
  rcases List.mem_append.1 ho with h | h
  · exact hA o h
  · exact hB o h
theorem re_app {w : World} {B : Nat} {v : Value} {D M : List OV} {E F : List Op5} (h : OwnO w B v (D ++ M)) (h1 : ReD w D E) (h2 : ReD w M F) : ReO w v (E ++ F) := ⟨D ++ M, own_rowO h, forall2_append h1 h2⟩

set_option maxHeartbeats 4000000 in
set_option maxRecDepth 100000 in
theorem sums_1 {ad : Nat → Addr} (pa pb : Option Addr) (na nb ca cb : Nat) (A B : List Op5) (DA DB : List OV) (w : World) (x y v z : Int) (e2 : Value) (k k1 k2 : Nat)
    (rA : RowO w (.slice pa na ca) DA) (rB : RowO w (.slice pb nb cb) DB) (hA : ReD w DA A) (hB : ReD w DB B) (lA : DA.length ≤ 1048576) (lB : DB.length ≤ 1048576)
    (cF : Calls Tryd.prog 6 #[] w fun r w' => r = .returned (.bool true) ∧ Below w.heap.size w w')
    (cA : ∀ W, Below w.heap.size w W → Calls Tryd.prog 7 #[.slice pa na ca] W fun r w' => r = .returned (.tuple #[.int .i64 x, .int .i64 y, errV ad k]) ∧ Below W.heap.size W w')
    (cB : ∀ W, Below w.heap.size w W → Calls Tryd.prog 7 #[.slice pb nb cb] W fun r w' => r = .returned (.tuple #[.int .i64 v, .int .i64 z, e2]) ∧ Below W.heap.size W w')
    (cC : ∀ W, Below w.heap.size w W → Calls Tryd.prog 8 #[.slice pa na ca] W fun r w' => ∃ v', r = .returned v' ∧ CoO w' W.heap.size v' A ∧ Below W.heap.size W w')
    (cD : ∀ W, Below w.heap.size w W → Calls Tryd.prog 8 #[.slice pb nb cb] W fun r w' => ∃ v', r = .returned v' ∧ CoO w' W.heap.size v' B ∧ Below W.heap.size W w')
    (cP : ∀ W u9, Below w.heap.size w W → ReO W u9 (A ++ B) → Calls Tryd.prog 7 #[u9] W fun r w' => r = .returned (.tuple #[.int .i64 0, .int .i64 0, errV ad k1]) ∧ Below W.heap.size W w')
    (cQ : ∀ W u9, Below w.heap.size w W → ReO W u9 (B ++ A) → Calls Tryd.prog 7 #[u9] W fun r w' => r = .returned (.tuple #[.int .i64 0, .int .i64 0, errV ad k2]) ∧ Below W.heap.size W w') :
    Calls Tryd.prog 3 #[.slice pa na ca, .slice pb nb cb] w fun r w' => r = .returned (.bool true) ∧ Below w.heap.size w w' := by
  have HR : Hid (RowO w (.slice pa na ca) DA ∧ RowO w (.slice pb nb cb) DB ∧ ReD w DA A ∧ ReD w DB B) := ⟨rA, rB, hA, hB⟩
  have cA : Hid _ := cA
  have cB : Hid _ := cB
  have cC : Hid _ := cC
  have cD : Hid _ := cD
  have cP : Hid _ := cP
  have cQ : Hid _ := cQ
  clear rA rB hA hB
  go_enter Tryd.func3, Tryd.ntmps3
  go_wp2_with fail
  refine cF.mono ?_; rintro r w1 ⟨rfl, h1⟩
  clear cF
  go_wp2_with fail
  refine (cA.out _ h1).mono ?_; rintro r w2 ⟨rfl, g2⟩
  have h2 := h1.trans (g2.mono h1.size)
  clear g2 h1
  go_wp2_with fail
  refine (cB.out _ h2).mono ?_; rintro r w3 ⟨rfl, g3⟩
  have h3 := h2.trans (g3.mono h2.size)
  clear g3 h2
  go_wp2_with fail
  refine (cC.out _ h3).mono ?_; rintro r w4 ⟨v0, rfl, ⟨D0, own0, re0⟩, g4⟩
  have h4 := h3.trans (g4.mono h3.size)
  have R4 := (HR.out.2.1).below h4
  have l4 : D0.length + DB.length ≤ 33554432 := by
    have e1 := forall2_len re0
    have e2 := forall2_len HR.out.2.2.1
    have : D0.length ≤ 1048576 := by omega
    omega
  have X4 : Hid (OwnO w4 w3.heap.size v0 D0 ∧ OwD w4 w3.heap.size D0 A ∧ RowO w4 (.slice pb nb cb) DB) := ⟨own0, re0, R4⟩
  have gs0 : Hid (∀ j, v0.ownBlock = some j → w3.heap.size ≤ j) := fun j hj => (owns_block own0 j hj).1
  have z4 := g4.size
  clear own0 re0 R4
  go_wp2_with (at_builtin; refine wpList_append_rowO rfl (.tmp 33) (.tmp 34) rfl w3.heap.size v0 D0 rfl X4.out.1 _ DB rfl X4.out.2.2 l4 z4 ?_; intro u0 w5 own5 gr5; have b5 : Below w3.heap.size w3 w5 := g4.grown gr5 z4 (fun j hj => gs0.out j hj); have h5 := h3.trans (b5.mono h3.size); have X5 : Hid (ReO w5 u0 (A ++ B)) := re_app own5 (X4.out.2.1.keep (keepA_grownO X4.out.1 gr5)).re (HR.out.2.2.2.below h5); clear own5 gr5 X4 g4 z4)
  refine (cP.out _ _ h5 X5.out).mono ?_; rintro r w6 ⟨rfl, g6⟩
  have h6 := h5.trans (g6.mono h5.size)
  clear g6 h5 X5 b5 h4 h3
  go_wp2_with fail
  refine (cD.out _ h6).mono ?_; rintro r w7 ⟨v1, rfl, ⟨D1, own1, re1⟩, g4⟩
  have h4 := h6.trans (g4.mono h6.size)
  have R4 := (HR.out.1).below h4
  have l4 : D1.length + DA.length ≤ 33554432 := by
    have e1 := forall2_len re1
    have e2 := forall2_len HR.out.2.2.2
    have : D1.length ≤ 1048576 := by omega
    omega
  have X4 : Hid (OwnO w7 w6.heap.size v1 D1 ∧ OwD w7 w6.heap.size D1 B ∧ RowO w7 (.slice pa na ca) DA) := ⟨own1, re1, R4⟩
  have gs1 : Hid (∀ j, v1.ownBlock = some j → w6.heap.size ≤ j) := fun j hj => (owns_block own1 j hj).1
  have z4 := g4.size
  clear own1 re1 R4
  go_wp2_with (at_builtin; refine wpList_append_rowO rfl (.tmp 42) (.tmp 43) rfl w6.heap.size v1 D1 rfl X4.out.1 _ DA rfl X4.out.2.2 l4 z4 ?_; intro u1 w8 own5 gr5; have b5 : Below w6.heap.size w6 w8 := g4.grown gr5 z4 (fun j hj => gs1.out j hj); have h5 := h6.trans (b5.mono h6.size); have X5 : Hid (ReO w8 u1 (B ++ A)) := re_app own5 (X4.out.2.1.keep (keepA_grownO X4.out.1 gr5)).re (HR.out.2.2.1.below h5); clear own5 gr5 X4 g4 z4)
  refine (cQ.out _ _ h5 X5.out).mono ?_; rintro r w9 ⟨rfl, g6⟩
  have h6 := h5.trans (g6.mono h5.size)
  clear g6 h5 X5 b5 h4 
  go_wp2
  go_ret
  exact ⟨rfl, h6⟩

set_option maxHeartbeats 4000000 in
set_option maxRecDepth 100000 in
theorem sums_2 {ad : Nat → Addr} (pa pb : Option Addr) (na nb ca cb : Nat) (A B : List Op5) (DA DB : List OV) (w : World) (x y v z : Int) (k k1 k2 : Nat)
    (rA : RowO w (.slice pa na ca) DA) (rB : RowO w (.slice pb nb cb) DB) (hA : ReD w DA A) (hB : ReD w DB B) (lA : DA.length ≤ 1048576) (lB : DB.length ≤ 1048576)
    (cF : Calls Tryd.prog 6 #[] w fun r w' => r = .returned (.bool true) ∧ Below w.heap.size w w')
    (cA : ∀ W, Below w.heap.size w W → Calls Tryd.prog 7 #[.slice pa na ca] W fun r w' => r = .returned (.tuple #[.int .i64 x, .int .i64 y, .nilIface]) ∧ Below W.heap.size W w')
    (cB : ∀ W, Below w.heap.size w W → Calls Tryd.prog 7 #[.slice pb nb cb] W fun r w' => r = .returned (.tuple #[.int .i64 v, .int .i64 z, errV ad k]) ∧ Below W.heap.size W w')
    (cC : ∀ W, Below w.heap.size w W → Calls Tryd.prog 8 #[.slice pa na ca] W fun r w' => ∃ v', r = .returned v' ∧ CoO w' W.heap.size v' A ∧ Below W.heap.size W w')
    (cD : ∀ W, Below w.heap.size w W → Calls Tryd.prog 8 #[.slice pb nb cb] W fun r w' => ∃ v', r = .returned v' ∧ CoO w' W.heap.size v' B ∧ Below W.heap.size W w')
    (cP : ∀ W u9, Below w.heap.size w W → ReO W u9 (A ++ B) → Calls Tryd.prog 7 #[u9] W fun r w' => r = .returned (.tuple #[.int .i64 0, .int .i64 0, errV ad k1]) ∧ Below W.heap.size W w')
    (cQ : ∀ W u9, Below w.heap.size w W → ReO W u9 (B ++ A) → Calls Tryd.prog 7 #[u9] W fun r w' => r = .returned (.tuple #[.int .i64 0, .int .i64 0, errV ad k2]) ∧ Below W.heap.size W w') :
    Calls Tryd.prog 3 #[.slice pa na ca, .slice pb nb cb] w fun r w' => r = .returned (.bool true) ∧ Below w.heap.size w w' := by
  have HR : Hid (RowO w (.slice pa na ca) DA ∧ RowO w (.slice pb nb cb) DB ∧ ReD w DA A ∧ ReD w DB B) := ⟨rA, rB, hA, hB⟩
  have cA : Hid _ := cA
  have cB : Hid _ := cB
  have cC : Hid _ := cC
  have cD : Hid _ := cD
  have cP : Hid _ := cP
  have cQ : Hid _ := cQ
  clear rA rB hA hB
  go_enter Tryd.func3, Tryd.ntmps3
  go_wp2_with fail
  refine cF.mono ?_; rintro r w1 ⟨rfl, h1⟩
  clear cF
  go_wp2_with fail
  refine (cA.out _ h1).mono ?_; rintro r w2 ⟨rfl, g2⟩
  have h2 := h1.trans (g2.mono h1.size)
  clear g2 h1
  go_wp2_with fail
  refine (cB.out _ h2).mono ?_; rintro r w3 ⟨rfl, g3⟩
  have h3 := h2.trans (g3.mono h2.size)
  clear g3 h2
  go_wp2_with fail
  refine (cC.out _ h3).mono ?_; rintro r w4 ⟨v0, rfl, ⟨D0, own0, re0⟩, g4⟩
  have h4 := h3.trans (g4.mono h3.size)
  have R4 := (HR.out.2.1).below h4
  have l4 : D0.length + DB.length ≤ 33554432 := by
    have e1 := forall2_len re0
    have e2 := forall2_len HR.out.2.2.1
    have : D0.length ≤ 1048576 := by omega
    omega
  have X4 : Hid (OwnO w4 w3.heap.size v0 D0 ∧ OwD w4 w3.heap.size D0 A ∧ RowO w4 (.slice pb nb cb) DB) := ⟨own0, re0, R4⟩
  have gs0 : Hid (∀ j, v0.ownBlock = some j → w3.heap.size ≤ j) := fun j hj => (owns_block own0 j hj).1
  have z4 := g4.size
  clear own0 re0 R4
  go_wp2_with (at_builtin; refine wpList_append_rowO rfl (.tmp 33) (.tmp 34) rfl w3.heap.size v0 D0 rfl X4.out.1 _ DB rfl X4.out.2.2 l4 z4 ?_; intro u0 w5 own5 gr5; have b5 : Below w3.heap.size w3 w5 := g4.grown gr5 z4 (fun j hj => gs0.out j hj); have h5 := h3.trans (b5.mono h3.size); have X5 : Hid (ReO w5 u0 (A ++ B)) := re_app own5 (X4.out.2.1.keep (keepA_grownO X4.out.1 gr5)).re (HR.out.2.2.2.below h5); clear own5 gr5 X4 g4 z4)
  refine (cP.out _ _ h5 X5.out).mono ?_; rintro r w6 ⟨rfl, g6⟩
  have h6 := h5.trans (g6.mono h5.size)
  clear g6 h5 X5 b5 h4 h3
  go_wp2_with fail
  refine (cD.out _ h6).mono ?_; rintro r w7 ⟨v1, rfl, ⟨D1, own1, re1⟩, g4⟩
  have h4 := h6.trans (g4.mono h6.size)
  have R4 := (HR.out.1).below h4
  have l4 : D1.length + DA.length ≤ 33554432 := by
    have e1 := forall2_len re1
    have e2 := forall2_len HR.out.2.2.2
    have : D1.length ≤ 1048576 := by omega
    omega
  have X4 : Hid (OwnO w7 w6.heap.size v1 D1 ∧ OwD w7 w6.heap.size D1 B ∧ RowO w7 (.slice pa na ca) DA) := ⟨own1, re1, R4⟩
  have gs1 : Hid (∀ j, v1.ownBlock = some j → w6.heap.size ≤ j) := fun j hj => (owns_block own1 j hj).1
  have z4 := g4.size
  clear own1 re1 R4
  go_wp2_with (at_builtin; refine wpList_append_rowO rfl (.tmp 42) (.tmp 43) rfl w6.heap.size v1 D1 rfl X4.out.1 _ DA rfl X4.out.2.2 l4 z4 ?_; intro u1 w8 own5 gr5; have b5 : Below w6.heap.size w6 w8 := g4.grown gr5 z4 (fun j hj => gs1.out j hj); have h5 := h6.trans (b5.mono h6.size); have X5 : Hid (ReO w8 u1 (B ++ A)) := re_app own5 (X4.out.2.1.keep (keepA_grownO X4.out.1 gr5)).re (HR.out.2.2.1.below h5); clear own5 gr5 X4 g4 z4)
  refine (cQ.out _ _ h5 X5.out).mono ?_; rintro r w9 ⟨rfl, g6⟩
  have h6 := h5.trans (g6.mono h5.size)
  clear g6 h5 X5 b5 h4 
  go_wp2
  go_ret
  exact ⟨rfl, h6⟩

set_option maxHeartbeats 4000000 in
set_option maxRecDepth 100000 in
theorem sums_3 {ad : Nat → Addr} (pa pb : Option Addr) (na nb ca cb : Nat) (A B : List Op5) (DA DB : List OV) (w : World) (x y v z : Int) (hx0 : 0 ≤ x) (hx1 : x ≤ 1099511627776) (hy0 : 0 ≤ y) (hy1 : y ≤ 1099511627776) (hv0 : 0 ≤ v) (hv1 : v ≤ 1099511627776) (hz0 : 0 ≤ z) (hz1 : z ≤ 1099511627776) (ho : 1099511627776 < x + v) (hd : decide (1099511627776 < x + v) = true)
    (rA : RowO w (.slice pa na ca) DA) (rB : RowO w (.slice pb nb cb) DB) (hA : ReD w DA A) (hB : ReD w DB B) (lA : DA.length ≤ 1048576) (lB : DB.length ≤ 1048576)
    (cF : Calls Tryd.prog 6 #[] w fun r w' => r = .returned (.bool true) ∧ Below w.heap.size w w')
    (cA : ∀ W, Below w.heap.size w W → Calls Tryd.prog 7 #[.slice pa na ca] W fun r w' => r = .returned (.tuple #[.int .i64 x, .int .i64 y, .nilIface]) ∧ Below W.heap.size W w')
    (cB : ∀ W, Below w.heap.size w W → Calls Tryd.prog 7 #[.slice pb nb cb] W fun r w' => r = .returned (.tuple #[.int .i64 v, .int .i64 z, .nilIface]) ∧ Below W.heap.size W w')
    (cC : ∀ W, Below w.heap.size w W → Calls Tryd.prog 8 #[.slice pa na ca] W fun r w' => ∃ v', r = .returned v' ∧ CoO w' W.heap.size v' A ∧ Below W.heap.size W w')
    (cD : ∀ W, Below w.heap.size w W → Calls Tryd.prog 8 #[.slice pb nb cb] W fun r w' => ∃ v', r = .returned v' ∧ CoO w' W.heap.size v' B ∧ Below W.heap.size W w')
    (cP : ∀ W u9, Below w.heap.size w W → ReO W u9 (A ++ B) → Calls Tryd.prog 7 #[u9] W fun r w' => r = .returned (.tuple #[.int .i64 0, .int .i64 0, errV ad 10]) ∧ Below W.heap.size W w')
    (cQ : ∀ W u9, Below w.heap.size w W → ReO W u9 (B ++ A) → Calls Tryd.prog 7 #[u9] W fun r w' => r = .returned (.tuple #[.int .i64 0, .int .i64 0, errV ad 10]) ∧ Below W.heap.size W w') (cN : ∀ W, Below w.heap.size w W → Calls Tryd.prog 9 #[errV ad 10] W fun r w' => r = .returned (.int .i64 11) ∧ Below W.heap.size W w') :
    Calls Tryd.prog 3 #[.slice pa na ca, .slice pb nb cb] w fun r w' => r = .returned (.bool true) ∧ Below w.heap.size w w' := by
  have HR : Hid (RowO w (.slice pa na ca) DA ∧ RowO w (.slice pb nb cb) DB ∧ ReD w DA A ∧ ReD w DB B) := ⟨rA, rB, hA, hB⟩
  have cA : Hid _ := cA
  have cB : Hid _ := cB
  have cC : Hid _ := cC
  have cD : Hid _ := cD
  have cP : Hid _ := cP
  have cQ : Hid _ := cQ
  have cN : Hid _ := cN
  clear rA rB hA hB
  go_enter Tryd.func3, Tryd.ntmps3
  go_wp2_with fail
  refine cF.mono ?_; rintro r w1 ⟨rfl, h1⟩
  clear cF
  go_wp2_with fail
  refine (cA.out _ h1).mono ?_; rintro r w2 ⟨rfl, g2⟩
  have h2 := h1.trans (g2.mono h1.size)
  clear g2 h1
  go_wp2_with fail
  refine (cB.out _ h2).mono ?_; rintro r w3 ⟨rfl, g3⟩
  have h3 := h2.trans (g3.mono h2.size)
  clear g3 h2
  go_wp2_with fail
  refine (cC.out _ h3).mono ?_; rintro r w4 ⟨v0, rfl, ⟨D0, own0, re0⟩, g4⟩
  have h4 := h3.trans (g4.mono h3.size)
  have R4 := (HR.out.2.1).below h4
  have l4 : D0.length + DB.length ≤ 33554432 := by
    have e1 := forall2_len re0
    have e2 := forall2_len HR.out.2.2.1
    have : D0.length ≤ 1048576 := by omega
    omega
  have X4 : Hid (OwnO w4 w3.heap.size v0 D0 ∧ OwD w4 w3.heap.size D0 A ∧ RowO w4 (.slice pb nb cb) DB) := ⟨own0, re0, R4⟩
  have gs0 : Hid (∀ j, v0.ownBlock = some j → w3.heap.size ≤ j) := fun j hj => (owns_block own0 j hj).1
  have z4 := g4.size
  clear own0 re0 R4
  go_wp2_with (at_builtin; refine wpList_append_rowO rfl (.tmp 33) (.tmp 34) rfl w3.heap.size v0 D0 rfl X4.out.1 _ DB rfl X4.out.2.2 l4 z4 ?_; intro u0 w5 own5 gr5; have b5 : Below w3.heap.size w3 w5 := g4.grown gr5 z4 (fun j hj => gs0.out j hj); have h5 := h3.trans (b5.mono h3.size); have X5 : Hid (ReO w5 u0 (A ++ B)) := re_app own5 (X4.out.2.1.keep (keepA_grownO X4.out.1 gr5)).re (HR.out.2.2.2.below h5); clear own5 gr5 X4 g4 z4)
  refine (cP.out _ _ h5 X5.out).mono ?_; rintro r w6 ⟨rfl, g6⟩
  have h6 := h5.trans (g6.mono h5.size)
  clear g6 h5 X5 b5 h4 h3
  go_wp2_with fail
  refine (cD.out _ h6).mono ?_; rintro r w7 ⟨v1, rfl, ⟨D1, own1, re1⟩, g4⟩
  have h4 := h6.trans (g4.mono h6.size)
  have R4 := (HR.out.1).below h4
  have l4 : D1.length + DA.length ≤ 33554432 := by
    have e1 := forall2_len re1
    have e2 := forall2_len HR.out.2.2.2
    have : D1.length ≤ 1048576 := by omega
    omega
  have X4 : Hid (OwnO w7 w6.heap.size v1 D1 ∧ OwD w7 w6.heap.size D1 B ∧ RowO w7 (.slice pa na ca) DA) := ⟨own1, re1, R4⟩
  have gs1 : Hid (∀ j, v1.ownBlock = some j → w6.heap.size ≤ j) := fun j hj => (owns_block own1 j hj).1
  have z4 := g4.size
  clear own1 re1 R4
  go_wp2_with (at_builtin; refine wpList_append_rowO rfl (.tmp 42) (.tmp 43) rfl w6.heap.size v1 D1 rfl X4.out.1 _ DA rfl X4.out.2.2 l4 z4 ?_; intro u1 w8 own5 gr5; have b5 : Below w6.heap.size w6 w8 := g4.grown gr5 z4 (fun j hj => gs1.out j hj); have h5 := h6.trans (b5.mono h6.size); have X5 : Hid (ReO w8 u1 (B ++ A)) := re_app own5 (X4.out.2.1.keep (keepA_grownO X4.out.1 gr5)).re (HR.out.2.2.1.below h5); clear own5 gr5 X4 g4 z4)
  refine (cQ.out _ _ h5 X5.out).mono ?_; rintro r w9 ⟨rfl, g6⟩
  have h6 := h5.trans (g6.mono h5.size)
  clear g6 h5 X5 b5 h4 
  go_wp2_with fail
  refine (cN.out _ h6).mono ?_; rintro r wA ⟨rfl, gA⟩
  have hA := h6.trans (gA.mono h6.size)
  clear gA h6
  go_wp2_with fail
  refine (cN.out _ hA).mono ?_; rintro r wB ⟨rfl, gB⟩
  have hB := hA.trans (gB.mono hA.size)
  clear gB hA
  go_wp2_with fail
  refine (cN.out _ hB).mono ?_; rintro r wC ⟨rfl, gC⟩
  have hC := hB.trans (gC.mono hB.size)
  clear gC hB
  go_wp2
  go_ret
  exact ⟨rfl, hC⟩

set_option maxHeartbeats 4000000 in
set_option maxRecDepth 100000 in
theorem sums_4 {ad : Nat → Addr} (pa pb : Option Addr) (na nb ca cb : Nat) (A B : List Op5) (DA DB : List OV) (w : World) (x y v z : Int) (hx0 : 0 ≤ x) (hx1 : x ≤ 1099511627776) (hy0 : 0 ≤ y) (hy1 : y ≤ 1099511627776) (hv0 : 0 ≤ v) (hv1 : v ≤ 1099511627776) (hz0 : 0 ≤ z) (hz1 : z ≤ 1099511627776) (ho1 : ¬ 1099511627776 < x + v) (hd1 : decide (1099511627776 < x + v) = false) (ho : 1099511627776 < y + z) (hd : decide (1099511627776 < y + z) = true)
    (rA : RowO w (.slice pa na ca) DA) (rB : RowO w (.slice pb nb cb) DB) (hA : ReD w DA A) (hB : ReD w DB B) (lA : DA.length ≤ 1048576) (lB : DB.length ≤ 1048576)
    (cF : Calls Tryd.prog 6 #[] w fun r w' => r = .returned (.bool true) ∧ Below w.heap.size w w')
    (cA : ∀ W, Below w.heap.size w W → Calls Tryd.prog 7 #[.slice pa na ca] W fun r w' => r = .returned (.tuple #[.int .i64 x, .int .i64 y, .nilIface]) ∧ Below W.heap.size W w')
    (cB : ∀ W, Below w.heap.size w W → Calls Tryd.prog 7 #[.slice pb nb cb] W fun r w' => r = .returned (.tuple #[.int .i64 v, .int .i64 z, .nilIface]) ∧ Below W.heap.size W w')
    (cC : ∀ W, Below w.heap.size w W → Calls Tryd.prog 8 #[.slice pa na ca] W fun r w' => ∃ v', r = .returned v' ∧ CoO w' W.heap.size v' A ∧ Below W.heap.size W w')
    (cD : ∀ W, Below w.heap.size w W → Calls Tryd.prog 8 #[.slice pb nb cb] W fun r w' => ∃ v', r = .returned v' ∧ CoO w' W.heap.size v' B ∧ Below W.heap.size W w')
    (cP : ∀ W u9, Below w.heap.size w W → ReO W u9 (A ++ B) → Calls Tryd.prog 7 #[u9] W fun r w' => r = .returned (.tuple #[.int .i64 0, .int .i64 0, errV ad 10]) ∧ Below W.heap.size W w')
    (cQ : ∀ W u9, Below w.heap.size w W → ReO W u9 (B ++ A) → Calls Tryd.prog 7 #[u9] W fun r w' => r = .returned (.tuple #[.int .i64 0, .int .i64 0, errV ad 10]) ∧ Below W.heap.size W w') (cN : ∀ W, Below w.heap.size w W → Calls Tryd.prog 9 #[errV ad 10] W fun r w' => r = .returned (.int .i64 11) ∧ Below W.heap.size W w') :
    Calls Tryd.prog 3 #[.slice pa na ca, .slice pb nb cb] w fun r w' => r = .returned (.bool true) ∧ Below w.heap.size w w' := by
  have HR : Hid (RowO w (.slice pa na ca) DA ∧ RowO w (.slice pb nb cb) DB ∧ ReD w DA A ∧ ReD w DB B) := ⟨rA, rB, hA, hB⟩
  have cA : Hid _ := cA
  have cB : Hid _ := cB
  have cC : Hid _ := cC
  have cD : Hid _ := cD
  have cP : Hid _ := cP
  have cQ : Hid _ := cQ
  have cN : Hid _ := cN
  clear rA rB hA hB
  go_enter Tryd.func3, Tryd.ntmps3
  go_wp2_with fail
  refine cF.mono ?_; rintro r w1 ⟨rfl, h1⟩
  clear cF
  go_wp2_with fail
  refine (cA.out _ h1).mono ?_; rintro r w2 ⟨rfl, g2⟩
  have h2 := h1.trans (g2.mono h1.size)
  clear g2 h1
  go_wp2_with fail
  refine (cB.out _ h2).mono ?_; rintro r w3 ⟨rfl, g3⟩
  have h3 := h2.trans (g3.mono h2.size)
  clear g3 h2
  go_wp2_with fail
  refine (cC.out _ h3).mono ?_; rintro r w4 ⟨v0, rfl, ⟨D0, own0, re0⟩, g4⟩
  have h4 := h3.trans (g4.mono h3.size)
  have R4 := (HR.out.2.1).below h4
  have l4 : D0.length + DB.length ≤ 33554432 := by
    have e1 := forall2_len re0
    have e2 := forall2_len HR.out.2.2.1
    have : D0.length ≤ 1048576 := by omega
    omega
  have X4 : Hid (OwnO w4 w3.heap.size v0 D0 ∧ OwD w4 w3.heap.size D0 A ∧ RowO w4 (.slice pb nb cb) DB) := ⟨own0, re0, R4⟩
  have gs0 : Hid (∀ j, v0.ownBlock = some j → w3.heap.size ≤ j) := fun j hj => (owns_block own0 j hj).1
  have z4 := g4.size
  clear own0 re0 R4
  go_wp2_with (at_builtin; refine wpList_append_rowO rfl (.tmp 33) (.tmp 34) rfl w3.heap.size v0 D0 rfl X4.out.1 _ DB rfl X4.out.2.2 l4 z4 ?_; intro u0 w5 own5 gr5; have b5 : Below w3.heap.size w3 w5 := g4.grown gr5 z4 (fun j hj => gs0.out j hj); have h5 := h3.trans (b5.mono h3.size); have X5 : Hid (ReO w5 u0 (A ++ B)) := re_app own5 (X4.out.2.1.keep (keepA_grownO X4.out.1 gr5)).re (HR.out.2.2.2.below h5); clear own5 gr5 X4 g4 z4)
  refine (cP.out _ _ h5 X5.out).mono ?_; rintro r w6 ⟨rfl, g6⟩
  have h6 := h5.trans (g6.mono h5.size)
  clear g6 h5 X5 b5 h4 h3
  go_wp2_with fail
  refine (cD.out _ h6).mono ?_; rintro r w7 ⟨v1, rfl, ⟨D1, own1, re1⟩, g4⟩
  have h4 := h6.trans (g4.mono h6.size)
  have R4 := (HR.out.1).below h4
  have l4 : D1.length + DA.length ≤ 33554432 := by
    have e1 := forall2_len re1
    have e2 := forall2_len HR.out.2.2.2
    have : D1.length ≤ 1048576 := by omega
    omega
  have X4 : Hid (OwnO w7 w6.heap.size v1 D1 ∧ OwD w7 w6.heap.size D1 B ∧ RowO w7 (.slice pa na ca) DA) := ⟨own1, re1, R4⟩
  have gs1 : Hid (∀ j, v1.ownBlock = some j → w6.heap.size ≤ j) := fun j hj => (owns_block own1 j hj).1
  have z4 := g4.size
  clear own1 re1 R4
  go_wp2_with (at_builtin; refine wpList_append_rowO rfl (.tmp 42) (.tmp 43) rfl w6.heap.size v1 D1 rfl X4.out.1 _ DA rfl X4.out.2.2 l4 z4 ?_; intro u1 w8 own5 gr5; have b5 : Below w6.heap.size w6 w8 := g4.grown gr5 z4 (fun j hj => gs1.out j hj); have h5 := h6.trans (b5.mono h6.size); have X5 : Hid (ReO w8 u1 (B ++ A)) := re_app own5 (X4.out.2.1.keep (keepA_grownO X4.out.1 gr5)).re (HR.out.2.2.1.below h5); clear own5 gr5 X4 g4 z4)
  refine (cQ.out _ _ h5 X5.out).mono ?_; rintro r w9 ⟨rfl, g6⟩
  have h6 := h5.trans (g6.mono h5.size)
  clear g6 h5 X5 b5 h4 
  go_wp2_with fail
  refine (cN.out _ h6).mono ?_; rintro r wA ⟨rfl, gA⟩
  have hA := h6.trans (gA.mono h6.size)
  clear gA h6
  go_wp2_with fail
  refine (cN.out _ hA).mono ?_; rintro r wB ⟨rfl, gB⟩
  have hB := hA.trans (gB.mono hA.size)
  clear gB hA
  go_wp2_with fail
  refine (cN.out _ hB).mono ?_; rintro r wC ⟨rfl, gC⟩
  have hC := hB.trans (gC.mono hB.size)
  clear gC hB
  go_wp2
  go_ret
  exact ⟨rfl, hC⟩

set_option maxHeartbeats 4000000 in
set_option maxRecDepth 100000 in
theorem sums_5 {ad : Nat → Addr} (pa pb : Option Addr) (na nb ca cb : Nat) (A B : List Op5) (DA DB : List OV) (w : World) (x y v z : Int) (hx0 : 0 ≤ x) (hx1 : x ≤ 1099511627776) (hy0 : 0 ≤ y) (hy1 : y ≤ 1099511627776) (hv0 : 0 ≤ v) (hv1 : v ≤ 1099511627776) (hz0 : 0 ≤ z) (hz1 : z ≤ 1099511627776) (ho1 : ¬ 1099511627776 < x + v) (hd1 : decide (1099511627776 < x + v) = false) (ho2 : ¬ 1099511627776 < y + z) (hd2 : decide (1099511627776 < y + z) = false)
    (rA : RowO w (.slice pa na ca) DA) (rB : RowO w (.slice pb nb cb) DB) (hA : ReD w DA A) (hB : ReD w DB B) (lA : DA.length ≤ 1048576) (lB : DB.length ≤ 1048576)
    (cF : Calls Tryd.prog 6 #[] w fun r w' => r = .returned (.bool true) ∧ Below w.heap.size w w')
    (cA : ∀ W, Below w.heap.size w W → Calls Tryd.prog 7 #[.slice pa na ca] W fun r w' => r = .returned (.tuple #[.int .i64 x, .int .i64 y, .nilIface]) ∧ Below W.heap.size W w')
    (cB : ∀ W, Below w.heap.size w W → Calls Tryd.prog 7 #[.slice pb nb cb] W fun r w' => r = .returned (.tuple #[.int .i64 v, .int .i64 z, .nilIface]) ∧ Below W.heap.size W w')
    (cC : ∀ W, Below w.heap.size w W → Calls Tryd.prog 8 #[.slice pa na ca] W fun r w' => ∃ v', r = .returned v' ∧ CoO w' W.heap.size v' A ∧ Below W.heap.size W w')
    (cD : ∀ W, Below w.heap.size w W → Calls Tryd.prog 8 #[.slice pb nb cb] W fun r w' => ∃ v', r = .returned v' ∧ CoO w' W.heap.size v' B ∧ Below W.heap.size W w')
    (cP : ∀ W u9, Below w.heap.size w W → ReO W u9 (A ++ B) → Calls Tryd.prog 7 #[u9] W fun r w' => r = .returned (.tuple #[.int .i64 (x + v), .int .i64 (y + z), .nilIface]) ∧ Below W.heap.size W w')
    (cQ : ∀ W u9, Below w.heap.size w W → ReO W u9 (B ++ A) → Calls Tryd.prog 7 #[u9] W fun r w' => r = .returned (.tuple #[.int .i64 (x + v), .int .i64 (y + z), .nilIface]) ∧ Below W.heap.size W w') :
    Calls Tryd.prog 3 #[.slice pa na ca, .slice pb nb cb] w fun r w' => r = .returned (.bool true) ∧ Below w.heap.size w w' := by
  have HR : Hid (RowO w (.slice pa na ca) DA ∧ RowO w (.slice pb nb cb) DB ∧ ReD w DA A ∧ ReD w DB B) := ⟨rA, rB, hA, hB⟩
  have cA : Hid _ := cA
  have cB : Hid _ := cB
  have cC : Hid _ := cC
  have cD : Hid _ := cD
  have cP : Hid _ := cP
  have cQ : Hid _ := cQ
  clear rA rB hA hB
  go_enter Tryd.func3, Tryd.ntmps3
  go_wp2_with fail
  refine cF.mono ?_; rintro r w1 ⟨rfl, h1⟩
  clear cF
  go_wp2_with fail
  refine (cA.out _ h1).mono ?_; rintro r w2 ⟨rfl, g2⟩
  have h2 := h1.trans (g2.mono h1.size)
  clear g2 h1
  go_wp2_with fail
  refine (cB.out _ h2).mono ?_; rintro r w3 ⟨rfl, g3⟩
  have h3 := h2.trans (g3.mono h2.size)
  clear g3 h2
  go_wp2_with fail
  refine (cC.out _ h3).mono ?_; rintro r w4 ⟨v0, rfl, ⟨D0, own0, re0⟩, g4⟩
  have h4 := h3.trans (g4.mono h3.size)
  have R4 := (HR.out.2.1).below h4
  have l4 : D0.length + DB.length ≤ 33554432 := by
    have e1 := forall2_len re0
    have e2 := forall2_len HR.out.2.2.1
    have : D0.length ≤ 1048576 := by omega
    omega
  have X4 : Hid (OwnO w4 w3.heap.size v0 D0 ∧ OwD w4 w3.heap.size D0 A ∧ RowO w4 (.slice pb nb cb) DB) := ⟨own0, re0, R4⟩
  have gs0 : Hid (∀ j, v0.ownBlock = some j → w3.heap.size ≤ j) := fun j hj => (owns_block own0 j hj).1
  have z4 := g4.size
  clear own0 re0 R4
  go_wp2_with (at_builtin; refine wpList_append_rowO rfl (.tmp 33) (.tmp 34) rfl w3.heap.size v0 D0 rfl X4.out.1 _ DB rfl X4.out.2.2 l4 z4 ?_; intro u0 w5 own5 gr5; have b5 : Below w3.heap.size w3 w5 := g4.grown gr5 z4 (fun j hj => gs0.out j hj); have h5 := h3.trans (b5.mono h3.size); have X5 : Hid (ReO w5 u0 (A ++ B)) := re_app own5 (X4.out.2.1.keep (keepA_grownO X4.out.1 gr5)).re (HR.out.2.2.2.below h5); clear own5 gr5 X4 g4 z4)
  refine (cP.out _ _ h5 X5.out).mono ?_; rintro r w6 ⟨rfl, g6⟩
  have h6 := h5.trans (g6.mono h5.size)
  clear g6 h5 X5 b5 h4 h3
  go_wp2_with fail
  refine (cD.out _ h6).mono ?_; rintro r w7 ⟨v1, rfl, ⟨D1, own1, re1⟩, g4⟩
  have h4 := h6.trans (g4.mono h6.size)
  have R4 := (HR.out.1).below h4
  have l4 : D1.length + DA.length ≤ 33554432 := by
    have e1 := forall2_len re1
    have e2 := forall2_len HR.out.2.2.2
    have : D1.length ≤ 1048576 := by omega
    omega
  have X4 : Hid (OwnO w7 w6.heap.size v1 D1 ∧ OwD w7 w6.heap.size D1 B ∧ RowO w7 (.slice pa na ca) DA) := ⟨own1, re1, R4⟩
  have gs1 : Hid (∀ j, v1.ownBlock = some j → w6.heap.size ≤ j) := fun j hj => (owns_block own1 j hj).1
  have z4 := g4.size
  clear own1 re1 R4
  go_wp2_with (at_builtin; refine wpList_append_rowO rfl (.tmp 42) (.tmp 43) rfl w6.heap.size v1 D1 rfl X4.out.1 _ DA rfl X4.out.2.2 l4 z4 ?_; intro u1 w8 own5 gr5; have b5 : Below w6.heap.size w6 w8 := g4.grown gr5 z4 (fun j hj => gs1.out j hj); have h5 := h6.trans (b5.mono h6.size); have X5 : Hid (ReO w8 u1 (B ++ A)) := re_app own5 (X4.out.2.1.keep (keepA_grownO X4.out.1 gr5)).re (HR.out.2.2.1.below h5); clear own5 gr5 X4 g4 z4)
  refine (cQ.out _ _ h5 X5.out).mono ?_; rintro r w9 ⟨rfl, g6⟩
  have h6 := h5.trans (g6.mono h5.size)
  clear g6 h5 X5 b5 h4 
  go_wp2
  go_ret
  exact ⟨rfl, h6⟩

theorem opsSums_any {I : List Nat} {ad : Nat → Addr} (va vb : Value) (A B : List Op5) (w : World) (hI : ∀ i ∈ IxO, i ∈ I) (hS : Std I ad w) (hN : Sent ad w) (ra : ReO w va A) (rb : ReO w vb B) (fA : FitL A) (fB : FitL B) (lA : A.length ≤ 1048576) (lB : B.length ≤ 1048576) (hsum : A.length + B.length ≤ 1048576) :
    Calls Tryd.prog 3 #[va, vb] w fun r w' => r = .returned (.bool true) ∧ Below w.heap.size w w' := by
  have cF := fixed5_any w hI hS
  have cA := fun W (hW : Below w.heap.size w W) => lens_any va A W hI (hS.below hW) (ra.below hW) fA lA
  have cB := fun W (hW : Below w.heap.size w W) => lens_any vb B W hI (hS.below hW) (rb.below hW) fB lB
  have cC := fun W (hW : Below w.heap.size w W) => copied5_any va A W (ra.below hW) lA (fun e he => (fA e he).n)
  have cD := fun W (hW : Below w.heap.size w W) => copied5_any vb B W (rb.below hW) lB (fun e he => (fB e he).n)
  have cP := fun W v (hW : Below w.heap.size w W) (h : ReO W v (A ++ B)) => lens_any v (A ++ B) W hI (hS.below hW) h (fitL_app fA fB) (by rw [List.length_append]; omega)
  have cQ := fun W v (hW : Below w.heap.size w W) (h : ReO W v (B ++ A)) => lens_any v (B ++ A) W hI (hS.below hW) h (fitL_app fB fA) (by rw [List.length_append]; omega)
  have cN := fun W (hW : Below w.heap.size w W) => num_of (hN.below hW) 11 (by decide)
  rw [show (11 : Nat) = 10 + 1 from rfl] at cN
  simp only [errOf_succ] at cN
  obtain ⟨DA, hrA, hreA⟩ := ra
  obtain ⟨DB, hrB, hreB⟩ := rb
  have eA := forall2_len hreA
  have eB := forall2_len hreB
  obtain ⟨pa, ca, rfl, _⟩ := id hrA
  obtain ⟨pb, cb, rfl, _⟩ := id hrB
  obtain ⟨a1, a2⟩ := lens_app fA fB
  obtain ⟨b1, b2⟩ := lens_app fB fA
  obtain ⟨⟨x, y, e1⟩, hLA⟩ : ∃ p, lensL A = p := ⟨_, rfl⟩
  obtain ⟨⟨v, z, e2⟩, hLB⟩ : ∃ p, lensL B = p := ⟨_, rfl⟩
  obtain ⟨⟨p, q, e3⟩, hLC⟩ : ∃ p, lensL (A ++ B) = p := ⟨_, rfl⟩
  obtain ⟨⟨r, s, e4⟩, hLD⟩ : ∃ p, lensL (B ++ A) = p := ⟨_, rfl⟩
  rw [hLA, hLB, hLC] at a1 a2
  rw [hLA, hLB, hLD] at b1 b2
  rw [hLA] at cA
  rw [hLB] at cB
  rw [hLC] at cP
  rw [hLD] at cQ
  simp only at a1 a2 b1 b2 cA cB cP cQ
  by_cases h1 : e1 = 0
  · by_cases h2 : e2 = 0
    · subst h1 h2
      obtain ⟨⟨hx0, hx1, hy0, hy1⟩, ⟨hv0, hv1, hz0, hz1⟩, e5⟩ := a2 rfl rfl
      obtain ⟨_, _, e6⟩ := b2 rfl rfl
      rw [show v + x = x + v by omega, show z + y = y + z by omega] at e6
      simp only [errOf_zero] at cA cB
      by_cases hc : x + v ≤ 1099511627776 ∧ y + z ≤ 1099511627776
      · rw [if_pos hc] at e5 e6
        simp only [Prod.mk.injEq] at e5 e6
        obtain ⟨rfl, rfl, rfl⟩ := e5
        obtain ⟨rfl, rfl, rfl⟩ := e6
        simp only [errOf_zero] at cP cQ
        exact sums_5 (ad := ad) pa pb _ _ ca cb A B DA DB w x y v z hx0 hx1 hy0 hy1 hv0 hv1 hz0 hz1 (by omega) (decide_eq_false (by omega)) (by omega) (decide_eq_false (by omega)) hrA hrB hreA hreB (by omega) (by omega) cF cA cB cC cD cP cQ
      · rw [if_neg hc] at e5 e6
        simp only [Prod.mk.injEq] at e5 e6
        obtain ⟨rfl, rfl, rfl⟩ := e5
        obtain ⟨rfl, rfl, rfl⟩ := e6
        by_cases ho : 1099511627776 < x + v
        · exact sums_3 (ad := ad) pa pb _ _ ca cb A B DA DB w x y v z hx0 hx1 hy0 hy1 hv0 hv1 hz0 hz1 ho (decide_eq_true ho) hrA hrB hreA hreB (by omega) (by omega) cF cA cB cC cD cP cQ cN
        · exact sums_4 (ad := ad) pa pb _ _ ca cb A B DA DB w x y v z hx0 hx1 hy0 hy1 hv0 hv1 hz0 hz1 ho (decide_eq_false ho) (by omega) (decide_eq_true (by omega)) hrA hrB hreA hreB (by omega) (by omega) cF cA cB cC cD cP cQ cN
    · subst h1
      obtain ⟨rfl, rfl, h3⟩ := a1 (Or.inr h2)
      obtain ⟨rfl, rfl, h4⟩ := b1 (Or.inl h2)
      obtain ⟨k, rfl⟩ : ∃ k, e2 = k + 1 := ⟨e2 - 1, by omega⟩
      obtain ⟨k1, rfl⟩ : ∃ k, e3 = k + 1 := ⟨e3 - 1, by omega⟩
      obtain ⟨k2, rfl⟩ : ∃ k, e4 = k + 1 := ⟨e4 - 1, by omega⟩
      simp only [errOf_zero, errOf_succ] at cA cB cP cQ
      exact sums_2 (ad := ad) pa pb _ _ ca cb A B DA DB w x y v z k k1 k2 hrA hrB hreA hreB (by omega) (by omega) cF cA cB cC cD cP cQ
  · obtain ⟨rfl, rfl, h3⟩ := a1 (Or.inl h1)
    obtain ⟨rfl, rfl, h4⟩ := b1 (Or.inr h1)
    obtain ⟨k, rfl⟩ : ∃ k, e1 = k + 1 := ⟨e1 - 1, by omega⟩
    obtain ⟨k1, rfl⟩ : ∃ k, e3 = k + 1 := ⟨e3 - 1, by omega⟩
    obtain ⟨k2, rfl⟩ : ∃ k, e4 = k + 1 := ⟨e4 - 1, by omega⟩
    simp only [errOf_succ] at cA cP cQ
    exact sums_1 (ad := ad) pa pb _ _ ca cb A B DA DB w x y v z (errOf ad e2) k k1 k2 hrA hrB hreA hreB (by omega) (by omega) cF cA cB cC cD cP cQ
end Go.Proofs.YtkgflmbhkbeakabDoor
