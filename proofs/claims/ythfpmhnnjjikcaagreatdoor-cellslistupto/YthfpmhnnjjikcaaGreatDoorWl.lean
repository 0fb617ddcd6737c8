/- A loop over a function whose function writes memory of its own between two rounds, and asks for rounds at what it has laid. -/
import Derived.RangeFuncNested
import Derived.RangeFuncBound
import Derived.RangeFuncCalls
import Derived.RangeFuncLeaves
namespace Go.Proofs.YthfpmhnnjjikcaaGreatDoor
open Go Go.RowKit
set_option linter.unusedVariables false
/-- What has turned is no cells, and lies at B or beyond. -/
structure Bk7 (B : Nat) (A A' : World) : Prop where
  os : A'.os = A.os
  tape : A'.tape = A.tape
  output : A'.output = A.output
  size : A.heap.size ≤ A'.heap.size
  kept : ∀ (k : Nat) (o : Obj), A.heap[k]? = some o → (k < B ∨ o.isCells = true) → A'.heap[k]? = some o
/-- What has turned is cells of certain types, at B or beyond. -/
structure It7 (T : TypeId → Prop) (B : Nat) (A A' : World) : Prop where
  os : A'.os = A.os
  tape : A'.tape = A.tape
  output : A'.output = A.output
  size : A.heap.size ≤ A'.heap.size
  kept : ∀ (k : Nat) (o : Obj), A.heap[k]? = some o → (k < B ∨ ¬ ∃ cs t fz, o = .cells cs t fz ∧ T t) → A'.heap[k]? = some o
/-- Cells of other types, and what lies below B, are as they were. -/
structure Tr7 (T : TypeId → Prop) (B : Nat) (A A' : World) : Prop where
  os : A'.os = A.os
  tape : A'.tape = A.tape
  output : A'.output = A.output
  size : A.heap.size ≤ A'.heap.size
  kept : ∀ (k : Nat) (o : Obj), A.heap[k]? = some o → (k < B ∨ ∃ cs t fz, o = .cells cs t fz ∧ ¬ T t) → A'.heap[k]? = some o
theorem Bk7.tr {T : TypeId → Prop} {B : Nat} {A A' : World} (h : Bk7 B A A') : Tr7 T B A A' :=
  ⟨h.os, h.tape, h.output, h.size, fun k o hk ho => h.kept k o hk (ho.imp id (fun ⟨cs, t, fz, e, _⟩ => by rw [e]; rfl))⟩
theorem It7.tr {T : TypeId → Prop} {B B' : Nat} {A A' : World} (h : It7 T B A A') (hB : B' ≤ B) : Tr7 T B' A A' :=
  ⟨h.os, h.tape, h.output, h.size, fun k o hk ho => h.kept k o hk (ho.elim (fun q => .inl (by omega)) (fun ⟨cs, t, fz, e, hn⟩ => .inr (fun ⟨cs', t', fz', e', ht⟩ => by rw [e] at e'; cases e'; exact hn ht)))⟩
theorem Bk7.refl (B : Nat) (A : World) : Bk7 B A A := ⟨rfl, rfl, rfl, Nat.le_refl _, fun _ _ h _ => h⟩
theorem Bk7.trans {B : Nat} {X Y Z : World} (h : Bk7 B X Y) (k : Bk7 B Y Z) : Bk7 B X Z :=
  ⟨k.os.trans h.os, k.tape.trans h.tape, k.output.trans h.output, Nat.le_trans h.size k.size, fun i o hi ho => k.kept i o (h.kept i o hi ho) ho⟩
theorem Tr7.refl (T : TypeId → Prop) (B : Nat) (A : World) : Tr7 T B A A := ⟨rfl, rfl, rfl, Nat.le_refl _, fun _ _ h _ => h⟩
theorem Tr7.trans {T : TypeId → Prop} {B : Nat} {X Y Z : World} (h : Tr7 T B X Y) (k : Tr7 T B Y Z) : Tr7 T B X Z :=
  ⟨k.os.trans h.os, k.tape.trans h.tape, k.output.trans h.output, Nat.le_trans h.size k.size, fun i o hi ho => k.kept i o (h.kept i o hi ho) ho⟩
theorem It7.refl (T : TypeId → Prop) (B : Nat) (A : World) : It7 T B A A := ⟨rfl, rfl, rfl, Nat.le_refl _, fun _ _ h _ => h⟩
theorem It7.trans {T : TypeId → Prop} {B : Nat} {X Y Z : World} (h : It7 T B X Y) (k : It7 T B Y Z) : It7 T B X Z :=
  ⟨k.os.trans h.os, k.tape.trans h.tape, k.output.trans h.output, Nat.le_trans h.size k.size, fun i o hi ho => k.kept i o (h.kept i o hi ho) ho⟩
theorem Bk7.put {B l : Nat} {W : World} {o : Obj} (o' : Obj) (hB : B ≤ l) (hl : W.heap[l]? = some o) (ho : o.isCells = false) : Bk7 B W (W.putObj l o') :=
  ⟨rfl, rfl, rfl, by simp, fun k x hk hx => by
    have : k ≠ l := fun e => by
      subst e; rw [hl] at hk; cases hk
      rcases hx with hx | hx
      · omega
      · simp [ho] at hx
    exact (World.putObj_heap_other this).trans hk⟩
theorem Bk7.alloc (B : Nat) (W : World) (o : Obj) : Bk7 B W (W.alloc o) :=
  ⟨rfl, rfl, rfl, by simp, fun k x hk _ => (Below.heap_alloc _ _ _ (Array.getElem?_eq_some_iff.1 hk).1).trans hk⟩
theorem Tr7.of_below {T : TypeId → Prop} {B : Nat} {A A' : World} (h : Below A.heap.size A A') : Tr7 T B A A' :=
  ⟨h.os, h.tape, h.output, h.size, fun k o hk _ => (h.block k (Array.getElem?_eq_some_iff.1 hk).1).trans hk⟩
theorem It7.of_below {T : TypeId → Prop} {B : Nat} {A A' : World} (h : Below A.heap.size A A') : It7 T B A A' :=
  ⟨h.os, h.tape, h.output, h.size, fun k o hk _ => (h.block k (Array.getElem?_eq_some_iff.1 hk).1).trans hk⟩
theorem Tr7.below {T : TypeId → Prop} {B : Nat} {A A' : World} (h : Tr7 T B A A') (hB : B ≤ A.heap.size) : Below B A A' :=
  ⟨h.os, h.tape, h.output, h.size, fun k hk => by
    have hl : k < A.heap.size := by omega
    rw [h.kept k A.heap[k] (Array.getElem?_eq_getElem hl) (.inl hk), Array.getElem?_eq_getElem hl]⟩

/-- The contract of a function to be ranged over: it asks for a round at x behind pre where G holds; the round keeps Kp. -/
def SeqG {α : Type} (F : Fence) (n : Nat) (P : Program) (g : Nat) (lb : Array Value) (encs : α → Array Value) (T : TypeId → Prop)
    (G : List α → α → World → Prop) (Kp : List α → α → World → World → Prop) (S : List α → Prop) (w0 : World) : Prop :=
  ∀ (l : Nat) (J Jx : List α → World → Prop) (W : World), Below w0.heap.size w0 W →
    (∀ s A A', J s A → It7 T W.heap.size A A' → J s A') → (∀ s A A', Jx s A → It7 T W.heap.size A A' → Jx s A') →
    (∀ pre x W1, J pre W1 → G pre x W1 → YieldAt F (n - 1) P l (encs x) W1 fun e W' =>
      (e = .returned (.bool true) ∧ J (pre ++ [x]) W' ∧ Kp pre x W1 W') ∨ (e = .returned (.bool false) ∧ Jx (pre ++ [x]) W')) →
    J [] W →
    CallsIn F n P g (#[.func (.yield l) #[] #[]] ++ lb) W fun e W' => (∃ v, e = .returned v) ∧ ((∃ xs, S xs ∧ J xs W') ∨ (∃ pre, Jx pre W'))

/-- How a round's body may be left. -/
def gPost {α : Type} (B : Nat) (Kp : List α → α → World → World → Prop) (I : List α → World → Prop) (Ix : Code → List α → World → Prop) (pre : List α) (x : α) (W : World) : Exit → Act → World → Prop
  | .normal, _, W' => KeepsFrom B W W' ∧ Kp pre x W W' ∧ I (pre ++ [x]) W'
  | .ret, _, W' => KeepsFrom B W W' ∧ Ix .ret (pre ++ [x]) W'
  | .exit id, _, W' => KeepsFrom B W W' ∧ Ix (.exit id) (pre ++ [x]) W'
  | .goto t, _, W' => KeepsFrom B W W' ∧ Ix (.goto t) (pre ++ [x]) W'
  | .panic _, _, _ => False
  | .outgrown, _, _ => False

variable {F : Fence} {n : Nat} {P : Program}
theorem wpIn_rangeFunc_G {α : Type} {g : Operand} {ps : Array Tmp} {assign body : Code} {Q : Exit → Act → World → Prop} {a : Act} {w : World}
    (hro : F.round = none) (h1 : 1 ≤ n) {gf : Nat} {lb : Array Value} (hg : a.eval g = .func (.func gf) #[] lb) (hFg : F.fn gf) (eg : ∀ args w, (callFunc gf args).run P w = .ok (.enter gf args) w)
    {encs : α → Array Value} {T : TypeId → Prop} {G : List α → α → World → Prop} {Kp : List α → α → World → World → Prop} {S : List α → Prop} {w0 : World}
    (hseq : SeqG F (n - 1) P gf lb encs T G Kp S w0) (hb0 : Below w0.heap.size w0 w) (hps : ∀ x, (encs x).size = ps.size)
    (hG : ∀ pre x A A', G pre x A → Bk7 w.heap.size A A' → G pre x A')
    (hK : ∀ pre x A A' B B', Bk7 w.heap.size A A' → Kp pre x A' B → Bk7 w.heap.size B B' → Kp pre x A B')
    (I : List α → World → Prop) (Ix : Code → List α → World → Prop)
    (hI : ∀ s A A', I s A → Tr7 T w.heap.size A A' → I s A') (hIx : ∀ c s A A', Ix c s A → Tr7 T w.heap.size A A' → Ix c s A') (h0 : I [] w) (a₁ : α → Act)
    (hassign : ∀ (l : Nat) (x : α) (W : World) (K : Act → World → Prop), K (a₁ x) W →
      assign.wpIn (F.inRound l) (n - 1 - 1) P (Exit.then K (fun _ _ _ => False)) { tmps := (ps.zip (encs x)).foldl (fun t (p, v) => t.setIfInBounds p v) a.tmps, defers := [] } W)
    (hbody : ∀ (l : Nat) (pre : List α) (x : α) (W : World), I pre W → G pre x W → body.wpIn (F.inRound l) (n - 1 - 1) P (gPost w.heap.size Kp I Ix pre x W) (a₁ x) W)
    (hdone : ∀ (D : Nat) (xs : List α) (W : World), w.heap.size ≤ D → S xs → I xs W → W.heap[D]? = some (.deferred (some [])) → Q .normal { a with defers := { target := .collected D, args := #[] } :: a.defers } W)
    (hstop : ∀ (D : Nat) (c : Code) (pre : List α) (W : World), w.heap.size ≤ D → Ix c pre W → W.heap[D]? = some (.deferred (some [])) → c.wpIn F n P Q { a with defers := { target := .collected D, args := #[] } :: a.defers } W) :
    (Code.rangeFunc g ps assign body).wpIn F n P Q a w := by
  refine wpIn_rangeFunc fun fn hfn => ?_
  rw [hro]
  obtain ⟨rc, hrc⟩ : ∃ rc : LoopState → Option Code → Loop, ∀ s p, rc s p = { state := s, pending := p, fn, tmps := a.tmps, params := ps, assign, body, defers := w.heap.size } := ⟨_, fun _ _ => rfl⟩
  -- the record and the block for deferred calls
  obtain ⟨L, hL⟩ : ∃ L : Option Obj → World → Prop, ∀ o W, L o W = (W.heap[w.heap.size + 1]? = o ∧ W.heap[w.heap.size]? = some (.deferred (some []))) := ⟨_, fun _ _ => rfl⟩
  obtain ⟨W1, hW1⟩ : ∃ W1, (w.alloc (.deferred (some []))).alloc (.loop (rc .ready none)) = W1 := ⟨_, rfl⟩
  have bk1 : Bk7 w.heap.size w W1 := by rw [← hW1]; exact (Bk7.alloc _ _ _).trans (Bk7.alloc _ _ _)
  have hL1 : L (some (.loop (rc .ready none))) W1 := by
    rw [hL, ← hW1]
    have e := World.alloc_heap_new (w.alloc (.deferred (some []))) (.loop (rc .ready none))
    rw [World.size_alloc] at e
    exact ⟨e, (Below.heap_alloc _ _ _ (by simp)).trans (World.alloc_heap_new w _)⟩
  have put : ∀ (o : Obj) (r : Loop) (W : World), L (some (.loop r)) W → L (some o) (W.putObj (w.heap.size + 1) o) ∧ Bk7 w.heap.size W (W.putObj (w.heap.size + 1) o) := fun o r W h => by
    rw [hL] at h ⊢
    exact ⟨⟨World.putObj_heap_same (Array.getElem?_eq_some_iff.1 h.1).1, (World.putObj_heap_other (by omega)).trans h.2⟩, Bk7.put _ (by omega) h.1 rfl⟩
  have trL : ∀ (r : Loop) (A A' : World), L (some (.loop r)) A → It7 T W1.heap.size A A' → L (some (.loop r)) A' := fun r A A' h k => by
    rw [hL] at h ⊢
    exact ⟨k.kept _ _ h.1 (.inr (fun ⟨_, _, _, e, _⟩ => by cases e)), k.kept _ _ h.2 (.inr (fun ⟨_, _, _, e, _⟩ => by cases e))⟩
  have hz : w.heap.size ≤ W1.heap.size := bk1.size
  refine ⟨w.heap.size + 1, [{ target := .collected w.heap.size, args := #[] }], W1, { target := .fn (.func gf) lb, args := #[.func (.yield (w.heap.size + 1)) #[] #[]] }, W1, gf,
    #[.func (.yield (w.heap.size + 1)) #[] #[]] ++ lb, W1, ?_, ?_, ?_, ?_, fun _ => h1, ?_⟩
  · rw [← hW1, hrc]; exact run_enterLoop_outer _ _ _ _ _
  · simp only [resolve, hg]
    simp [go_sem]
  · intro f' hf'; simp [Target.leads] at hf'; subst hf'; exact hFg
  · simp [invoke, go_sem, eg]
  · refine (hseq (w.heap.size + 1) (fun pre W => I pre W ∧ L (some (.loop (rc .ready none))) W) (fun pre W => ∃ c, Ix c pre W ∧ L (some (.loop (rc .done (some c)))) W) W1
      (hb0.trans ((Tr7.below (bk1.tr (T := T)) (Nat.le_refl _)).mono hb0.size))
      (fun s A A' h k => ⟨hI s A A' h.1 (k.tr hz), trL _ _ _ h.2 k⟩) (fun s A A' ⟨c, h, h'⟩ k => ⟨c, hIx c s A A' h (k.tr hz), trL _ _ _ h' k⟩) ?_ ⟨hI _ _ _ h0 bk1.tr, hL1⟩).mono ?_
    · rintro pre x W ⟨hi, hl⟩ hg
      obtain ⟨q1, q2⟩ := put (.loop (rc .busy none)) _ W hl
      have hlp := (show L (some (.loop (rc .ready none))) W from hl)
      rw [hL] at hlp
      have hy := run_yield (P := P) (args := encs x) hlp.1 (by rw [hrc]; exact hps x)
      rw [hrc] at hy
      refine ⟨fn, _, assign, body, hy, roundIn_of_wpIn hfn (hassign _ x W _ ⟨_, run_beginRound hlp.1 (by rw [hrc]), ?_⟩)⟩
      have eb : ({ rc .ready none with state := LoopState.busy } : Loop) = rc .busy none := by rw [hrc, hrc]
      rw [eb]
      refine wpIn_mono (hbody _ pre x _ (hI _ _ _ hi q2.tr) (hG _ _ _ _ hg q2)) ?_
      have fin : ∀ (jump : Option Code) (W3 : World), KeepsFrom w.heap.size (W.putObj (w.heap.size + 1) (.loop (rc .busy none))) W3 →
          (Instr.endRound (w.heap.size + 1) jump).run P W3 = .ok (.bool jump.isNone) (W3.putObj (w.heap.size + 1) (.loop (rc (if jump.isNone then .ready else .done) jump))) ∧
          L (some (.loop (rc (if jump.isNone then .ready else .done) jump))) (W3.putObj (w.heap.size + 1) (.loop (rc (if jump.isNone then .ready else .done) jump))) ∧
          Bk7 w.heap.size W3 (W3.putObj (w.heap.size + 1) (.loop (rc (if jump.isNone then .ready else .done) jump))) := fun jump W3 k3 => by
        have l3 : L (some (.loop (rc .busy none))) W3 := by
          rw [hL] at q1 ⊢
          exact ⟨k3.same _ _ (by omega) q1.1 rfl, k3.same _ _ (Nat.le_refl _) q1.2 rfl⟩
        obtain ⟨p1, p2⟩ := put (.loop (rc (if jump.isNone then .ready else .done) jump)) _ W3 l3
        rw [hL] at l3
        have e := run_endRound (P := P) jump l3.1
        rw [hrc] at e
        exact ⟨by rw [hrc]; exact e, p1, p2⟩
      rintro e a3 W3 hp
      cases e with
      | normal =>
        obtain ⟨k3, kp, hi3⟩ := hp
        obtain ⟨r1, r2, r3⟩ := fin none W3 k3
        exact ⟨_, _, r1, .inl ⟨rfl, ⟨hI _ _ _ hi3 r3.tr, r2⟩, hK _ _ _ _ _ _ q2 kp r3⟩⟩
      | ret =>
        obtain ⟨k3, hi3⟩ := hp
        obtain ⟨r1, r2, r3⟩ := fin (some .ret) W3 k3
        exact ⟨_, _, r1, .inr ⟨rfl, _, hIx _ _ _ _ hi3 r3.tr, r2⟩⟩
      | exit id =>
        obtain ⟨k3, hi3⟩ := hp
        obtain ⟨r1, r2, r3⟩ := fin (some (.exit id)) W3 k3
        exact ⟨_, _, r1, .inr ⟨rfl, _, hIx _ _ _ _ hi3 r3.tr, r2⟩⟩
      | goto t =>
        obtain ⟨k3, hi3⟩ := hp
        obtain ⟨r1, r2, r3⟩ := fin (some (.goto t)) W3 k3
        exact ⟨_, _, r1, .inr ⟨rfl, _, hIx _ _ _ _ hi3 r3.tr, r2⟩⟩
      | panic ch => exact hp.elim
      | outgrown => exact hp.elim
    · rintro e W2 ⟨⟨v, rfl⟩, (⟨xs, hS, hi, hl⟩ | ⟨pre, c, hi, hl⟩)⟩
      · obtain ⟨p1, p2⟩ := put (.loop (rc .exhausted none)) _ W2 hl
        rw [hL] at hl p1
        have r := run_endLoop (P := P) hl.1 (by rw [hrc]; simp)
        rw [hrc] at r
        rw [hrc] at p1 p2
        exact ⟨none, _, r, hdone _ xs _ (Nat.le_refl _) hS (hI _ _ _ hi p2.tr) p1.2⟩
      · obtain ⟨p1, p2⟩ := put (.loop (rc .exhausted (some c))) _ W2 hl
        rw [hL] at hl p1
        have r := run_endLoop (P := P) hl.1 (by rw [hrc]; simp)
        rw [hrc] at r
        rw [hrc] at p1 p2
        exact ⟨some c, _, r, hstop _ c pre _ (Nat.le_refl _) (hIx _ _ _ _ hi p2.tr) p1.2⟩
end Go.Proofs.YthfpmhnnjjikcaaGreatDoor
