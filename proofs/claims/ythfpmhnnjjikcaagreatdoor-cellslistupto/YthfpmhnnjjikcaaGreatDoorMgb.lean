/- Loops over a function (Wl's law), twice anew: the assignment may lay blocks of its own and the body is told that its loop's record lies there; and the same within a round of another such loop. ops: lengths of pieces, their sums; ops.Lengths. ops: what a piece bears; plain retains; what may follow what. ops.Canonical. What vellumref04.SameCell and SameCells answer: whether the cells are the same. What content.Cut answers. What content.Cut answers of a text that can be cut. What content.Join answers. content.textCells: the cells of a text. What the values' methods answer: Kind, Plain; how values of the interface compare. What content.Cells and content.Newlines answer. vellumlaw04.lives. Joins of inserts, purely; Join at all operations. Deltas unit by unit: what operations are, cell by cell and gap by gap; canonical lists are told apart by it. The canonical list of operations: its units are theirs, each gap's inserts ahead of its deletes. Deltas unit by unit: their edits of cells; their lengths. Deltas unit by unit: one behind the other, and one carried over another: what they do to cells. Two canonical lists that do the same to all long enough documents are one. -/
import Derived.Test.YthfpmhnnjjikcaaGreatDoorMga
import Derived.Stop.Asserts
import Derived.Test.YthfpmhnnjjikcaaGreatDoorSm
import Derived.Test.YthfpmhnnjjikcaaGreatDoorCc
import Derived.Deep.RegionHeld3
import Derived.Test.YthfpmhnnjjikcaaGreatDoorCq
import Derived.BigRegion
import Derived.Deep.DeepCutAuto
import Derived.Laws.MakeOwn
import Derived.Test.YthfpmhnnjjikcaaGreatDoorVs
import Derived.Test.YthfpmhnnjjikcaaGreatDoorVf

/- Loops over a function (Wl's law), twice anew: the assignment may lay blocks of its own and the body is told that its loop's record lies there; and the same within a round of another such loop. -/
namespace Go.Proofs.YthfpmhnnjjikcaaGreatDoor
open Go Go.RowKit
set_option linter.unusedVariables false

/-- What has turned is neither cells nor a text gone over, and lies from B on and below C. -/
structure Bk9 (B C : Nat) (A A' : World) : Prop where
  os : A'.os = A.os
  tape : A'.tape = A.tape
  output : A'.output = A.output
  size : A.heap.size ≤ A'.heap.size
  kept : ∀ (k : Nat) (o : Obj), A.heap[k]? = some o → (k < B ∨ C ≤ k ∨ o.isCells = true ∨ ∃ t p, o = .stringIter t p) → A'.heap[k]? = some o
theorem Bk9.seven {B C : Nat} {A A' : World} (h : Bk9 B C A A') : Bk7 B A A' := ⟨h.os, h.tape, h.output, h.size, fun k o hk ho => h.kept k o hk (ho.imp id fun q => .inr (.inl q))⟩
theorem Bk9.tr {T : TypeId → Prop} {B C : Nat} {A A' : World} (h : Bk9 B C A A') : Tr7 T B A A' := h.seven.tr
theorem Bk9.cells {B C : Nat} {A A' : World} (h : Bk9 B C A A') {k : Nat} {cs : Array Value} {t : TypeId} {fz : Nat × Nat} (hk : A.heap[k]? = some (.cells cs t fz)) : A'.heap[k]? = some (.cells cs t fz) := h.kept k _ hk (.inr (.inr (.inl rfl)))
theorem Bk9.ite {B C : Nat} {A A' : World} (h : Bk9 B C A A') {k : Nat} {t : ByteArray} {p : Nat} (hk : A.heap[k]? = some (.stringIter t p)) : A'.heap[k]? = some (.stringIter t p) := h.kept k _ hk (.inr (.inr (.inr ⟨_, _, rfl⟩)))
theorem Bk9.trans {B C : Nat} {X Y Z : World} (h : Bk9 B C X Y) (k : Bk9 B C Y Z) : Bk9 B C X Z :=
  ⟨k.os.trans h.os, k.tape.trans h.tape, k.output.trans h.output, Nat.le_trans h.size k.size, fun i o hi ho => k.kept i o (h.kept i o hi ho) ho⟩
theorem Bk9.put {B C l : Nat} {W : World} {r : Loop} (o' : Obj) (hB : B ≤ l) (hC : l < C) (hl : W.heap[l]? = some (.loop r)) : Bk9 B C W (W.putObj l o') :=
  ⟨rfl, rfl, rfl, by simp, fun k x hk hx => by
    have : k ≠ l := fun e => by
      subst e; rw [hl] at hk; cases hk
      rcases hx with hx | hx | hx | ⟨_, _, hx⟩
      · omega
      · omega
      · cases hx
      · cases hx
    exact (World.putObj_heap_other this).trans hk⟩
theorem Bk9.alloc (B C : Nat) (W : World) (o : Obj) : Bk9 B C W (W.alloc o) :=
  ⟨rfl, rfl, rfl, by simp, fun k x hk _ => (Below.heap_alloc _ _ _ (Array.getElem?_eq_some_iff.1 hk).1).trans hk⟩
theorem Bk9.of_below {B C : Nat} {A A' : World} (h : Below A.heap.size A A') : Bk9 B C A A' :=
  ⟨h.os, h.tape, h.output, h.size, fun k o hk _ => (h.block k (Array.getElem?_eq_some_iff.1 hk).1).trans hk⟩
theorem Tr7.mono {T T' : TypeId → Prop} {B B' : Nat} {A A' : World} (h : Tr7 T B A A') (hT : ∀ t, T t → T' t) (hB : B' ≤ B) : Tr7 T' B' A A' :=
  ⟨h.os, h.tape, h.output, h.size, fun k o hk ho => h.kept k o hk (ho.imp (fun q => by omega) (fun ⟨cs, t, fz, e, hn⟩ => ⟨cs, t, fz, e, fun ht => hn (hT t ht)⟩))⟩
/-- What has turned is cells of certain types, or a text gone over, at B or beyond. -/
structure It9 (T : TypeId → Prop) (B : Nat) (A A' : World) : Prop where
  os : A'.os = A.os
  tape : A'.tape = A.tape
  output : A'.output = A.output
  size : A.heap.size ≤ A'.heap.size
  kept : ∀ (k : Nat) (o : Obj), A.heap[k]? = some o → (k < B ∨ ((¬ ∃ cs t fz, o = .cells cs t fz ∧ T t) ∧ ¬ ∃ t p, o = .stringIter t p)) → A'.heap[k]? = some o
theorem It9.tr {T : TypeId → Prop} {B B' : Nat} {A A' : World} (h : It9 T B A A') (hB : B' ≤ B) : Tr7 T B' A A' :=
  ⟨h.os, h.tape, h.output, h.size, fun k o hk ho => h.kept k o hk (ho.elim (fun q => .inl (by omega)) (fun ⟨cs, t, fz, e, hn⟩ => .inr ⟨fun ⟨cs', t', fz', e', ht⟩ => (by rw [e] at e'; cases e'; exact hn ht), fun ⟨_, _, e'⟩ => (by rw [e] at e'; cases e')⟩))⟩
theorem It9.of_below {T : TypeId → Prop} {B : Nat} {A A' : World} (h : Below A.heap.size A A') : It9 T B A A' :=
  ⟨h.os, h.tape, h.output, h.size, fun k o hk _ => (h.block k (Array.getElem?_eq_some_iff.1 hk).1).trans hk⟩
theorem It9.trans {T : TypeId → Prop} {B : Nat} {X Y Z : World} (h : It9 T B X Y) (k : It9 T B Y Z) : It9 T B X Z :=
  ⟨k.os.trans h.os, k.tape.trans h.tape, k.output.trans h.output, Nat.le_trans h.size k.size, fun i o hi ho => k.kept i o (h.kept i o hi ho) ho⟩
theorem It9.mono {T T' : TypeId → Prop} {B B' : Nat} {A A' : World} (h : It9 T B A A') (hT : ∀ t, T t → T' t) (hB : B' ≤ B) : It9 T' B' A A' :=
  ⟨h.os, h.tape, h.output, h.size, fun k o hk ho => h.kept k o hk (ho.elim (fun q => .inl (by omega)) (fun q => .inr ⟨fun ⟨cs, t, fz, e, ht⟩ => q.1 ⟨cs, t, fz, e, hT t ht⟩, q.2⟩))⟩
theorem It7.nine {T : TypeId → Prop} {B : Nat} {A A' : World} (h : It7 T B A A') : It9 T B A A' :=
  ⟨h.os, h.tape, h.output, h.size, fun k o hk ho => h.kept k o hk (ho.imp id fun q => q.1)⟩
theorem Tr7.low {T : TypeId → Prop} {B B' : Nat} {A A' : World} (h : Tr7 T B A A') (hB : B' ≤ B) : Tr7 T B' A A' :=
  ⟨h.os, h.tape, h.output, h.size, fun k o hk ho => h.kept k o hk (ho.imp (fun q => by omega) id)⟩
/-- What is no cells, from C on, is as it was. -/
def NcK (C : Nat) (A A' : World) : Prop := A.heap.size ≤ A'.heap.size ∧ ∀ (k : Nat) (o : Obj), C ≤ k → A.heap[k]? = some o → o.isCells = false → A'.heap[k]? = some o
theorem yieldAt_mono {F : Fence} {m : Nat} {P : Program} {l : Nat} {args : Array Value} {W : World} {R R' : Ending → World → Prop} (h : YieldAt F m P l args W R) (hr : ∀ e w', R e w' → R' e w') : YieldAt F m P l args W R' := by
  obtain ⟨fn, tm, asg, bo, hy, hR⟩ := h
  exact ⟨fn, tm, asg, bo, hy, hR.mono hr⟩
/-- The contract of a function to be ranged over, as SeqG, where it may go over a text of its own. -/
def SeqG9 {α : Type} (F : Fence) (n : Nat) (P : Program) (g : Nat) (lb : Array Value) (encs : α → Array Value) (T : TypeId → Prop)
    (G : List α → α → World → Prop) (Kp : Nat → List α → α → World → World → Prop) (S : List α → Prop) (w0 : World) : Prop :=
  ∀ (l : Nat) (J Jx : List α → World → Prop) (W : World), Below w0.heap.size w0 W →
    (∀ s A A', J s A → Tr7 T W.heap.size A A' → J s A') → (∀ s A A', Jx s A → Tr7 T W.heap.size A A' → Jx s A') →
    (∀ pre x W1, J pre W1 → G pre x W1 → YieldAt F (n - 1) P l (encs x) W1 fun e W' =>
      (e = .returned (.bool true) ∧ J (pre ++ [x]) W' ∧ Kp W.heap.size pre x W1 W' ∧ NcK W.heap.size W1 W') ∨ (e = .returned (.bool false) ∧ Jx (pre ++ [x]) W' ∧ NcK W.heap.size W1 W')) →
    J [] W →
    CallsIn F n P g (#[.func (.yield l) #[] #[]] ++ lb) W fun e W' => (∃ v, e = .returned v) ∧ ((∃ xs, S xs ∧ J xs W') ∨ (∃ pre, Jx pre W'))
theorem SeqG.nine {α : Type} {F : Fence} {n : Nat} {P : Program} {g : Nat} {lb : Array Value} {encs : α → Array Value} {T : TypeId → Prop} {G : List α → α → World → Prop} {Kp : List α → α → World → World → Prop} {S : List α → Prop} {w0 : World}
    (h : SeqG F n P g lb encs T G Kp S w0) : SeqG9 F n P g lb encs T G (fun _ => Kp) S w0 := fun l J Jx W hb hJ hJx hY h0 => h l J Jx W hb (fun s A A' a k => hJ s A A' a (k.tr (Nat.le_refl _))) (fun s A A' a k => hJx s A A' a (k.tr (Nat.le_refl _))) (fun pre x W1 a b => yieldAt_mono (hY pre x W1 a b) fun e w' h => h.imp (fun h => ⟨h.1, h.2.1, h.2.2.1⟩) (fun h => ⟨h.1, h.2.1⟩)) h0
theorem SeqG9.inRound {α : Type} {F : Fence} {n : Nat} {P : Program} {g : Nat} {lb : Array Value} {encs : α → Array Value} {T : TypeId → Prop} {G : List α → α → World → Prop} {Kp : Nat → List α → α → World → World → Prop} {S : List α → Prop} {w0 : World} (l : Nat)
    (h : SeqG9 F n P g lb encs T G Kp S w0) : SeqG9 (F.inRound l) n P g lb encs T G Kp S w0 := h
variable {F : Fence} {n : Nat} {P : Program}

theorem wpIn_rangeFunc_GA {α : Type} {g : Operand} {ps : Array Tmp} {assign body : Code} {Q : Exit → Act → World → Prop} {a : Act} {w : World}
    (hro : F.round = none) (h1 : 1 ≤ n) {gf : Nat} {lb : Array Value} (hg : a.eval g = .func (.func gf) #[] lb) (hFg : F.fn gf) (eg : ∀ args w, (callFunc gf args).run P w = .ok (.enter gf args) w)
    {encs : α → Array Value} {T : TypeId → Prop} {G : List α → α → World → Prop} {Kp : Nat → List α → α → World → World → Prop} {S : List α → Prop} {w0 : World}
    (hseq : SeqG9 F (n - 1) P gf lb encs T G Kp S w0) (hb0 : Below w0.heap.size w0 w) (hps : ∀ x, (encs x).size = ps.size)
    (hG : ∀ pre x A A', G pre x A → Bk9 w.heap.size (w.heap.size + 2) A A' → G pre x A')
    (hK : ∀ pre x A A' B B', Bk9 w.heap.size (w.heap.size + 2) A A' → Kp (w.heap.size + 2) pre x A' B → Bk9 w.heap.size (w.heap.size + 2) B B' → Kp (w.heap.size + 2) pre x A B')
    (I : List α → World → Prop) (Ix : Code → List α → World → Prop)
    (hI : ∀ s A A', I s A → Tr7 T w.heap.size A A' → I s A') (hIx : ∀ c s A A', Ix c s A → Tr7 T w.heap.size A A' → Ix c s A') (h0 : I [] w)
    (Ax : List α → α → Act → World → Prop) (hAx : ∀ pre x a' A A', Ax pre x a' A → Bk9 w.heap.size (w.heap.size + 2) A A' → Ax pre x a' A')
    (hassign : ∀ (l : Nat) (pre : List α) (x : α) (W : World) (K : Act → World → Prop), I pre W → G pre x W → (∀ a' W', Below W.heap.size W W' → Ax pre x a' W' → K a' W') →
      assign.wpIn (F.inRound l) (n - 1 - 1) P (Exit.then K (fun _ _ _ => False)) { tmps := (ps.zip (encs x)).foldl (fun t (p, v) => t.setIfInBounds p v) a.tmps, defers := [] } W)
    (hbody : ∀ (l : Nat) (pre : List α) (x : α) (a' : Act) (W : World), w.heap.size ≤ l → (∃ r, W.heap[l]? = some (.loop r)) → I pre W → G pre x W → Ax pre x a' W → body.wpIn (F.inRound l) (n - 1 - 1) P (gPost w.heap.size (Kp (w.heap.size + 2)) I Ix pre x W) a' W)
    (hdone : ∀ (D : Nat) (xs : List α) (W : World), w.heap.size ≤ D → S xs → I xs W → W.heap[D]? = some (.deferred (some [])) → Q .normal { a with defers := { target := .collected D, args := #[] } :: a.defers } W)
    (hstop : ∀ (D : Nat) (c : Code) (pre : List α) (W : World), w.heap.size ≤ D → Ix c pre W → W.heap[D]? = some (.deferred (some [])) → c.wpIn F n P Q { a with defers := { target := .collected D, args := #[] } :: a.defers } W) :
    (Code.rangeFunc g ps assign body).wpIn F n P Q a w := by
  refine wpIn_rangeFunc fun fn hfn => ?_
  rw [hro]
  obtain ⟨rc, hrc⟩ : ∃ rc : LoopState → Option Code → Loop, ∀ s p, rc s p = { state := s, pending := p, fn, tmps := a.tmps, params := ps, assign, body, defers := w.heap.size } := ⟨_, fun _ _ => rfl⟩
  -- the record and the block for deferred calls
  obtain ⟨L, hL⟩ : ∃ L : Option Obj → World → Prop, ∀ o W, L o W = (W.heap[w.heap.size + 1]? = o ∧ W.heap[w.heap.size]? = some (.deferred (some []))) := ⟨_, fun _ _ => rfl⟩
  obtain ⟨W1, hW1⟩ : ∃ W1, (w.alloc (.deferred (some []))).alloc (.loop (rc .ready none)) = W1 := ⟨_, rfl⟩
  have bk1 : Bk9 w.heap.size (w.heap.size + 2) w W1 := by rw [← hW1]; exact (Bk9.alloc _ _ _ _).trans (Bk9.alloc _ _ _ _)
  have hL1 : L (some (.loop (rc .ready none))) W1 := by
    rw [hL, ← hW1]
    have e := World.alloc_heap_new (w.alloc (.deferred (some []))) (.loop (rc .ready none))
    rw [World.size_alloc] at e
    exact ⟨e, (Below.heap_alloc _ _ _ (by simp)).trans (World.alloc_heap_new w _)⟩
  have put : ∀ (o : Obj) (r : Loop) (W : World), L (some (.loop r)) W → L (some o) (W.putObj (w.heap.size + 1) o) ∧ Bk9 w.heap.size (w.heap.size + 2) W (W.putObj (w.heap.size + 1) o) := fun o r W h => by
    rw [hL] at h ⊢
    exact ⟨⟨World.putObj_heap_same (Array.getElem?_eq_some_iff.1 h.1).1, (World.putObj_heap_other (by omega)).trans h.2⟩, Bk9.put _ (by omega) (by omega) h.1⟩
  have hlt1 : w.heap.size + 1 < W1.heap.size := by
    have := hL1
    rw [hL] at this
    exact (Array.getElem?_eq_some_iff.1 this.1).1
  have trL : ∀ (r : Loop) (A A' : World), L (some (.loop r)) A → Tr7 T W1.heap.size A A' → L (some (.loop r)) A' := fun r A A' h k => by
    rw [hL] at h ⊢
    exact ⟨k.kept _ _ h.1 (.inl hlt1), k.kept _ _ h.2 (.inl (by omega))⟩
  have hz : w.heap.size ≤ W1.heap.size := bk1.size
  have hzz : W1.heap.size = w.heap.size + 2 := by rw [← hW1]; simp [World.size_alloc]
  refine ⟨w.heap.size + 1, [{ target := .collected w.heap.size, args := #[] }], W1, { target := .fn (.func gf) lb, args := #[.func (.yield (w.heap.size + 1)) #[] #[]] }, W1, gf,
    #[.func (.yield (w.heap.size + 1)) #[] #[]] ++ lb, W1, ?_, ?_, ?_, ?_, fun _ => h1, ?_⟩
  · rw [← hW1, hrc]; exact run_enterLoop_outer _ _ _ _ _
  · simp only [resolve, hg]
    simp [go_sem]
  · intro f' hf'; simp [Target.leads] at hf'; subst hf'; exact hFg
  · simp [invoke, go_sem, eg]
  · refine (hseq (w.heap.size + 1) (fun pre W => I pre W ∧ L (some (.loop (rc .ready none))) W) (fun pre W => ∃ c, Ix c pre W ∧ L (some (.loop (rc .done (some c)))) W) W1
      (hb0.trans ((Tr7.below (bk1.tr (T := T)) (Nat.le_refl _)).mono hb0.size))
      (fun s A A' h k => ⟨hI s A A' h.1 (k.low hz), trL _ _ _ h.2 k⟩) (fun s A A' ⟨c, h, h'⟩ k => ⟨c, hIx c s A A' h (k.low hz), trL _ _ _ h' k⟩) ?_ ⟨hI _ _ _ h0 bk1.tr, hL1⟩).mono ?_
    · rw [hzz]
      rintro pre x W ⟨hi, hl⟩ hg
      have hlp := (show L (some (.loop (rc .ready none))) W from hl)
      rw [hL] at hlp
      have hy := run_yield (P := P) (args := encs x) hlp.1 (by rw [hrc]; exact hps x)
      rw [hrc] at hy
      refine ⟨fn, _, assign, body, hy, roundIn_of_wpIn hfn (hassign _ pre x W _ hi hg fun a' Wa hba hax => ?_)⟩
      have bka : Bk9 w.heap.size (w.heap.size + 2) W Wa := Bk9.of_below hba
      have la : L (some (.loop (rc .ready none))) Wa := by
        rw [hL]
        exact ⟨(hba.block _ (Array.getElem?_eq_some_iff.1 hlp.1).1).trans hlp.1, (hba.block _ (Array.getElem?_eq_some_iff.1 hlp.2).1).trans hlp.2⟩
      obtain ⟨q1, q2⟩ := put (.loop (rc .busy none)) _ Wa la
      have hla := la
      rw [hL] at hla
      have q02 := bka.trans q2
      refine ⟨_, run_beginRound hla.1 (by rw [hrc]), ?_⟩
      have eb : ({ rc .ready none with state := LoopState.busy } : Loop) = rc .busy none := by rw [hrc, hrc]
      rw [eb]
      have hq := q1
      rw [hL] at hq
      refine wpIn_mono (hbody _ pre x a' _ (by omega) ⟨_, hq.1⟩ (hI _ _ _ hi q02.tr) (hG _ _ _ _ hg q02) (hAx _ _ _ _ _ hax q2)) ?_
      clear hq hla hy
      have fin : ∀ (jump : Option Code) (W3 : World), KeepsFrom w.heap.size (Wa.putObj (w.heap.size + 1) (.loop (rc .busy none))) W3 →
          (Instr.endRound (w.heap.size + 1) jump).run P W3 = .ok (.bool jump.isNone) (W3.putObj (w.heap.size + 1) (.loop (rc (if jump.isNone then .ready else .done) jump))) ∧
          L (some (.loop (rc (if jump.isNone then .ready else .done) jump))) (W3.putObj (w.heap.size + 1) (.loop (rc (if jump.isNone then .ready else .done) jump))) ∧
          Bk9 w.heap.size (w.heap.size + 2) W3 (W3.putObj (w.heap.size + 1) (.loop (rc (if jump.isNone then .ready else .done) jump))) := fun jump W3 k3 => by
        have l3 : L (some (.loop (rc .busy none))) W3 := by
          rw [hL] at q1 ⊢
          exact ⟨k3.same _ _ (by omega) q1.1 rfl, k3.same _ _ (Nat.le_refl _) q1.2 rfl⟩
        obtain ⟨p1, p2⟩ := put (.loop (rc (if jump.isNone then .ready else .done) jump)) _ W3 l3
        rw [hL] at l3
        have e := run_endRound (P := P) jump l3.1
        rw [hrc] at e
        exact ⟨by rw [hrc]; exact e, p1, p2⟩
      have nck : ∀ W3 W4, KeepsFrom w.heap.size (Wa.putObj (w.heap.size + 1) (.loop (rc .busy none))) W3 → Bk9 w.heap.size (w.heap.size + 2) W3 W4 → NcK (w.heap.size + 2) W W4 := fun W3 W4 k3 k4 =>
        ⟨Nat.le_trans q02.size (Nat.le_trans k3.size k4.size), fun k o hk ho hc => k4.kept k o (k3.same k o (by omega) (q02.kept k o ho (.inr (.inl hk))) hc) (.inr (.inl hk))⟩
      rintro e a3 W3 hp
      cases e with
      | normal =>
        obtain ⟨k3, kp, hi3⟩ := hp
        obtain ⟨r1, r2, r3⟩ := fin none W3 k3
        exact ⟨_, _, r1, .inl ⟨rfl, ⟨hI _ _ _ hi3 r3.tr, r2⟩, hK _ _ _ _ _ _ q02 kp r3, nck _ _ k3 r3⟩⟩
      | ret =>
        obtain ⟨k3, hi3⟩ := hp
        obtain ⟨r1, r2, r3⟩ := fin (some .ret) W3 k3
        exact ⟨_, _, r1, .inr ⟨rfl, ⟨_, hIx _ _ _ _ hi3 r3.tr, r2⟩, nck _ _ k3 r3⟩⟩
      | exit id =>
        obtain ⟨k3, hi3⟩ := hp
        obtain ⟨r1, r2, r3⟩ := fin (some (.exit id)) W3 k3
        exact ⟨_, _, r1, .inr ⟨rfl, ⟨_, hIx _ _ _ _ hi3 r3.tr, r2⟩, nck _ _ k3 r3⟩⟩
      | goto t =>
        obtain ⟨k3, hi3⟩ := hp
        obtain ⟨r1, r2, r3⟩ := fin (some (.goto t)) W3 k3
        exact ⟨_, _, r1, .inr ⟨rfl, ⟨_, hIx _ _ _ _ hi3 r3.tr, r2⟩, nck _ _ k3 r3⟩⟩
      | panic ch => exact hp.elim
      | outgrown => exact hp.elim
    · rintro e W2 ⟨⟨v, rfl⟩, (⟨xs, hS, hi, hl⟩ | ⟨pre, c, hi, hl⟩)⟩
      · obtain ⟨p1, p2⟩ := put (.loop (rc .exhausted none)) _ W2 hl
        rw [hL] at hl p1
        have r := run_endLoop (P := P) hl.1 (by rw [hrc]; simp)
        rw [hrc] at r
        rw [hrc] at p1 p2
        exact ⟨none, _, r, hdone _ xs _ (Nat.le_refl _) hS (hI _ _ _ hi p2.tr) p1.2⟩
      · obtain ⟨p1, p2⟩ := put (.loop (rc .exhausted (some c))) _ W2 hl
        rw [hL] at hl p1
        have r := run_endLoop (P := P) hl.1 (by rw [hrc]; simp)
        rw [hrc] at r
        rw [hrc] at p1 p2
        exact ⟨some c, _, r, hstop _ c pre _ (Nat.le_refl _) (hIx _ _ _ _ hi p2.tr) p1.2⟩

theorem wpIn_rangeFunc_GN {α : Type} {g : Operand} {ps : Array Tmp} {assign body : Code} {Q : Exit → Act → World → Prop} {a : Act} {w : World}
    {l₀ : Nat} {r₀ : Loop} (hro : F.round = some l₀) (hl₀ : w.heap[l₀]? = some (.loop r₀)) (h1 : 1 ≤ n) {gf : Nat} {lb : Array Value} (hg : a.eval g = .func (.func gf) #[] lb) (hFg : F.fn gf) (eg : ∀ args w, (callFunc gf args).run P w = .ok (.enter gf args) w)
    {encs : α → Array Value} {T : TypeId → Prop} {G : List α → α → World → Prop} {Kp : Nat → List α → α → World → World → Prop} {S : List α → Prop} {w0 : World}
    (hseq : SeqG9 F (n - 1) P gf lb encs T G Kp S w0) (hb0 : Below w0.heap.size w0 w) (hps : ∀ x, (encs x).size = ps.size)
    (hG : ∀ pre x A A', G pre x A → Bk9 w.heap.size (w.heap.size + 1) A A' → G pre x A')
    (hK : ∀ pre x A A' B B', Bk9 w.heap.size (w.heap.size + 1) A A' → Kp (w.heap.size + 1) pre x A' B → Bk9 w.heap.size (w.heap.size + 1) B B' → Kp (w.heap.size + 1) pre x A B')
    (I : List α → World → Prop) (Ix : Code → List α → World → Prop)
    (hI : ∀ s A A', I s A → Tr7 T w.heap.size A A' → I s A') (hIx : ∀ c s A A', Ix c s A → Tr7 T w.heap.size A A' → Ix c s A') (h0 : I [] w)
    (Ax : List α → α → Act → World → Prop) (hAx : ∀ pre x a' A A', Ax pre x a' A → Bk9 w.heap.size (w.heap.size + 1) A A' → Ax pre x a' A')
    (hassign : ∀ (l : Nat) (pre : List α) (x : α) (W : World) (K : Act → World → Prop), I pre W → G pre x W → (∀ a' W', Below W.heap.size W W' → Ax pre x a' W' → K a' W') →
      assign.wpIn (F.inRound l) (n - 1 - 1) P (Exit.then K (fun _ _ _ => False)) { tmps := (ps.zip (encs x)).foldl (fun t (p, v) => t.setIfInBounds p v) a.tmps, defers := [] } W)
    (hbody : ∀ (l : Nat) (pre : List α) (x : α) (a' : Act) (W : World), w.heap.size ≤ l → (∃ r, W.heap[l]? = some (.loop r)) → I pre W → G pre x W → Ax pre x a' W → body.wpIn (F.inRound l) (n - 1 - 1) P (gPost w.heap.size (Kp (w.heap.size + 1)) I Ix pre x W) a' W)
    (hdone : ∀ (xs : List α) (W : World), S xs → I xs W → Q .normal a W)
    (hstop : ∀ (c : Code) (pre : List α) (W : World), Ix c pre W → c.wpIn F n P Q a W) :
    (Code.rangeFunc g ps assign body).wpIn F n P Q a w := by
  refine wpIn_rangeFunc fun fn hfn => ?_
  rw [hro]
  obtain ⟨rc, hrc⟩ : ∃ rc : LoopState → Option Code → Loop, ∀ s p, rc s p = { state := s, pending := p, fn, tmps := a.tmps, params := ps, assign, body, defers := r₀.defers } := ⟨_, fun _ _ => rfl⟩
  -- the record and the block for deferred calls
  obtain ⟨L, hL⟩ : ∃ L : Option Obj → World → Prop, ∀ o W, L o W = (W.heap[w.heap.size]? = o) := ⟨_, fun _ _ => rfl⟩
  obtain ⟨W1, hW1⟩ : ∃ W1, w.alloc (.loop (rc .ready none)) = W1 := ⟨_, rfl⟩
  have bk1 : Bk9 w.heap.size (w.heap.size + 1) w W1 := by rw [← hW1]; exact Bk9.alloc _ _ _ _
  have hL1 : L (some (.loop (rc .ready none))) W1 := by
    rw [hL, ← hW1]
    exact World.alloc_heap_new w _
  have put : ∀ (o : Obj) (r : Loop) (W : World), L (some (.loop r)) W → L (some o) (W.putObj w.heap.size o) ∧ Bk9 w.heap.size (w.heap.size + 1) W (W.putObj w.heap.size o) := fun o r W h => by
    rw [hL] at h ⊢
    exact ⟨World.putObj_heap_same (Array.getElem?_eq_some_iff.1 h).1, Bk9.put _ (Nat.le_refl _) (by omega) h⟩
  have hlt1 : w.heap.size < W1.heap.size := by
    have := hL1
    rw [hL] at this
    exact (Array.getElem?_eq_some_iff.1 this).1
  have trL : ∀ (r : Loop) (A A' : World), L (some (.loop r)) A → Tr7 T W1.heap.size A A' → L (some (.loop r)) A' := fun r A A' h k => by
    rw [hL] at h ⊢
    exact k.kept _ _ h (.inl hlt1)
  have hz : w.heap.size ≤ W1.heap.size := bk1.size
  have hzz : W1.heap.size = w.heap.size + 1 := by rw [← hW1]; simp [World.size_alloc]
  refine ⟨w.heap.size, [], W1, { target := .fn (.func gf) lb, args := #[.func (.yield w.heap.size) #[] #[]] }, W1, gf,
    #[.func (.yield w.heap.size) #[] #[]] ++ lb, W1, ?_, ?_, ?_, ?_, fun _ => h1, ?_⟩
  · rw [← hW1, hrc]; exact run_enterLoop_inner hl₀ _ _ _ _ _
  · simp only [resolve, hg]
    simp [go_sem]
  · intro f' hf'; simp [Target.leads] at hf'; subst hf'; exact hFg
  · simp [invoke, go_sem, eg]
  · refine (hseq w.heap.size (fun pre W => I pre W ∧ L (some (.loop (rc .ready none))) W) (fun pre W => ∃ c, Ix c pre W ∧ L (some (.loop (rc .done (some c)))) W) W1
      (hb0.trans ((Tr7.below (bk1.tr (T := T)) (Nat.le_refl _)).mono hb0.size))
      (fun s A A' h k => ⟨hI s A A' h.1 (k.low hz), trL _ _ _ h.2 k⟩) (fun s A A' ⟨c, h, h'⟩ k => ⟨c, hIx c s A A' h (k.low hz), trL _ _ _ h' k⟩) ?_ ⟨hI _ _ _ h0 bk1.tr, hL1⟩).mono ?_
    · rw [hzz]
      rintro pre x W ⟨hi, hl⟩ hg
      have hlp := (show L (some (.loop (rc .ready none))) W from hl)
      rw [hL] at hlp
      have hy := run_yield (P := P) (args := encs x) hlp (by rw [hrc]; exact hps x)
      rw [hrc] at hy
      refine ⟨fn, _, assign, body, hy, roundIn_of_wpIn hfn (hassign _ pre x W _ hi hg fun a' Wa hba hax => ?_)⟩
      have bka : Bk9 w.heap.size (w.heap.size + 1) W Wa := Bk9.of_below hba
      have la : L (some (.loop (rc .ready none))) Wa := by
        rw [hL]
        exact (hba.block _ (Array.getElem?_eq_some_iff.1 hlp).1).trans hlp
      obtain ⟨q1, q2⟩ := put (.loop (rc .busy none)) _ Wa la
      have hla := la
      rw [hL] at hla
      have q02 := bka.trans q2
      refine ⟨_, run_beginRound hla (by rw [hrc]), ?_⟩
      have eb : ({ rc .ready none with state := LoopState.busy } : Loop) = rc .busy none := by rw [hrc, hrc]
      rw [eb]
      have hq := q1
      rw [hL] at hq
      refine wpIn_mono (hbody _ pre x a' _ (by omega) ⟨_, hq⟩ (hI _ _ _ hi q02.tr) (hG _ _ _ _ hg q02) (hAx _ _ _ _ _ hax q2)) ?_
      clear hq hla hy
      have fin : ∀ (jump : Option Code) (W3 : World), KeepsFrom w.heap.size (Wa.putObj w.heap.size (.loop (rc .busy none))) W3 →
          (Instr.endRound w.heap.size jump).run P W3 = .ok (.bool jump.isNone) (W3.putObj w.heap.size (.loop (rc (if jump.isNone then .ready else .done) jump))) ∧
          L (some (.loop (rc (if jump.isNone then .ready else .done) jump))) (W3.putObj w.heap.size (.loop (rc (if jump.isNone then .ready else .done) jump))) ∧
          Bk9 w.heap.size (w.heap.size + 1) W3 (W3.putObj w.heap.size (.loop (rc (if jump.isNone then .ready else .done) jump))) := fun jump W3 k3 => by
        have l3 : L (some (.loop (rc .busy none))) W3 := by
          rw [hL] at q1 ⊢
          exact k3.same _ _ (Nat.le_refl _) q1 rfl
        obtain ⟨p1, p2⟩ := put (.loop (rc (if jump.isNone then .ready else .done) jump)) _ W3 l3
        rw [hL] at l3
        have e := run_endRound (P := P) jump l3
        rw [hrc] at e
        exact ⟨by rw [hrc]; exact e, p1, p2⟩
      have nck : ∀ W3 W4, KeepsFrom w.heap.size (Wa.putObj w.heap.size (.loop (rc .busy none))) W3 → Bk9 w.heap.size (w.heap.size + 1) W3 W4 → NcK (w.heap.size + 1) W W4 := fun W3 W4 k3 k4 =>
        ⟨Nat.le_trans q02.size (Nat.le_trans k3.size k4.size), fun k o hk ho hc => k4.kept k o (k3.same k o (by omega) (q02.kept k o ho (.inr (.inl hk))) hc) (.inr (.inl hk))⟩
      rintro e a3 W3 hp
      cases e with
      | normal =>
        obtain ⟨k3, kp, hi3⟩ := hp
        obtain ⟨r1, r2, r3⟩ := fin none W3 k3
        exact ⟨_, _, r1, .inl ⟨rfl, ⟨hI _ _ _ hi3 r3.tr, r2⟩, hK _ _ _ _ _ _ q02 kp r3, nck _ _ k3 r3⟩⟩
      | ret =>
        obtain ⟨k3, hi3⟩ := hp
        obtain ⟨r1, r2, r3⟩ := fin (some .ret) W3 k3
        exact ⟨_, _, r1, .inr ⟨rfl, ⟨_, hIx _ _ _ _ hi3 r3.tr, r2⟩, nck _ _ k3 r3⟩⟩
      | exit id =>
        obtain ⟨k3, hi3⟩ := hp
        obtain ⟨r1, r2, r3⟩ := fin (some (.exit id)) W3 k3
        exact ⟨_, _, r1, .inr ⟨rfl, ⟨_, hIx _ _ _ _ hi3 r3.tr, r2⟩, nck _ _ k3 r3⟩⟩
      | goto t =>
        obtain ⟨k3, hi3⟩ := hp
        obtain ⟨r1, r2, r3⟩ := fin (some (.goto t)) W3 k3
        exact ⟨_, _, r1, .inr ⟨rfl, ⟨_, hIx _ _ _ _ hi3 r3.tr, r2⟩, nck _ _ k3 r3⟩⟩
      | panic ch => exact hp.elim
      | outgrown => exact hp.elim
    · rintro e W2 ⟨⟨v, rfl⟩, (⟨xs, hS, hi, hl⟩ | ⟨pre, c, hi, hl⟩)⟩
      · obtain ⟨p1, p2⟩ := put (.loop (rc .exhausted none)) _ W2 hl
        rw [hL] at hl p1
        have r := run_endLoop (P := P) hl (by rw [hrc]; simp)
        rw [hrc] at r
        rw [hrc] at p1 p2
        exact ⟨none, _, r, hdone xs _ hS (hI _ _ _ hi p2.tr)⟩
      · obtain ⟨p1, p2⟩ := put (.loop (rc .exhausted (some c))) _ W2 hl
        rw [hL] at hl p1
        have r := run_endLoop (P := P) hl (by rw [hrc]; simp)
        rw [hrc] at r
        rw [hrc] at p1 p2
        exact ⟨some c, _, r, hstop c pre _ (hIx _ _ _ _ hi p2.tr)⟩
end Go.Proofs.YthfpmhnnjjikcaaGreatDoor

/- ops: lengths of pieces, their sums; ops.Lengths. -/
namespace Go.Proofs.YthfpmhnnjjikcaaGreatDoor
open Go Go.RowKit Go.Lib
set_option linter.unusedVariables false

def baseO (o : Op5) : Int := if o.k = 3 ∨ o.k = 4 then len5 o else 0
def resO (o : Op5) : Int := if o.k = 4 then 0 else len5 o
/-- The sums of lengths, asked at each operation. -/
def sumL : Int → Int → List Op5 → Int × Int × Nat
  | b, r, [] => (b, r, 0)
  | b, r, o :: L => if 1099511627776 < b + baseO o ∨ 1099511627776 < r + resO o then (0, 0, 11) else sumL (b + baseO o) (r + resO o) L
/-- What Lengths answers. -/
def lensL (E : List Op5) : Int × Int × Nat := if (badP E).2 ≠ 0 then (0, 0, (badP E).2) else sumL 0 0 E
theorem len5_range {o : Op5} (h : opE o = 0) (f : Fit o) : 0 ≤ len5 o ∧ len5 o ≤ 1099511627776 := by
  unfold len5
  rcases op_good h with ⟨hi, hk⟩ | ⟨hc, hl, hk⟩ | ⟨hc, hA, hk⟩
  · rw [if_pos hk]
    unfold lenO
    split
    · have := (valid_text o.t hi.utf).2.2
      have := f.t
      omega
    · omega
  · rw [if_neg (by omega)]
    have := hc.lo
    have := hc.hi
    omega
  · rw [if_neg (by omega)]
    have := hc.lo
    have := hc.hi
    omega
theorem base_range {o : Op5} (h : opE o = 0) (f : Fit o) : 0 ≤ baseO o ∧ baseO o ≤ 1099511627776 := by
  have := len5_range h f
  unfold baseO
  split <;> omega
theorem res_range {o : Op5} (h : opE o = 0) (f : Fit o) : 0 ≤ resO o ∧ resO o ≤ 1099511627776 := by
  have := len5_range h f
  unfold resO
  split <;> omega
theorem kinds_of {o : Op5} (h : opE o = 0) : o.k = 1 ∨ o.k = 2 ∨ o.k = 3 ∨ o.k = 4 := by
  rcases op_good h with ⟨_, hk⟩ | ⟨_, _, hk⟩ | ⟨_, _, hk⟩ <;> omega

theorem as_i_r (v : Value) (W : World) : (Instr.typeAssert (.iface 188 v) 56 160 true).run Tryz.prog W = .ok (.tuple #[.agg #[.slice none 0 0, .int .i64 0], .bool false]) W := by kernel_rfl
theorem as_e_r (v : Value) (W : World) : (Instr.typeAssert (.iface 192 v) 56 160 true).run Tryz.prog W = .ok (.tuple #[.agg #[.slice none 0 0, .int .i64 0], .bool false]) W := by kernel_rfl
theorem as_d_r (v : Value) (W : World) : (Instr.typeAssert (.iface 105 v) 56 160 true).run Tryz.prog W = .ok (.tuple #[.agg #[.slice none 0 0, .int .i64 0], .bool false]) W := by kernel_rfl
theorem as_r_r (v : Value) (W : World) : (Instr.typeAssert (.iface 160 v) 56 160 true).run Tryz.prog W = .ok (.tuple #[v, .bool true]) W := by kernel_rfl
theorem as_i_d (v : Value) (W : World) : (Instr.typeAssert (.iface 188 v) 56 105 true).run Tryz.prog W = .ok (.tuple #[.agg #[.int .i64 0], .bool false]) W := by kernel_rfl
theorem as_e_d (v : Value) (W : World) : (Instr.typeAssert (.iface 192 v) 56 105 true).run Tryz.prog W = .ok (.tuple #[.agg #[.int .i64 0], .bool false]) W := by kernel_rfl
theorem as_r_d (v : Value) (W : World) : (Instr.typeAssert (.iface 160 v) 56 105 true).run Tryz.prog W = .ok (.tuple #[.agg #[.int .i64 0], .bool false]) W := by kernel_rfl
theorem as_d_d (v : Value) (W : World) : (Instr.typeAssert (.iface 105 v) 56 105 true).run Tryz.prog W = .ok (.tuple #[v, .bool true]) W := by kernel_rfl
theorem as_r_i (v : Value) (W : World) : (Instr.typeAssert (.iface 160 v) 56 188 true).run Tryz.prog W = .ok (.tuple #[.agg #[.slice none 0 0, .string ⟨#[]⟩, .int .i64 0], .bool false]) W := by kernel_rfl
theorem as_d_i (v : Value) (W : World) : (Instr.typeAssert (.iface 105 v) 56 188 true).run Tryz.prog W = .ok (.tuple #[.agg #[.slice none 0 0, .string ⟨#[]⟩, .int .i64 0], .bool false]) W := by kernel_rfl
theorem rlen_any (s : Value) (n : Int) (w : World) : Calls Tryz.prog 192 #[.agg #[s, .int .i64 n]] w fun e w' => e = .returned (.int .i64 n) ∧ Below w.heap.size w w' := by
  go_enter Tryz.func192, Tryz.ntmps192
  go_wp2
  go_ret
  exact ⟨rfl, (Below.refl _ _).alloc (Nat.le_refl _) _⟩
theorem dlen_any (n : Int) (w : World) : Calls Tryz.prog 190 #[.agg #[.int .i64 n]] w fun e w' => e = .returned (.int .i64 n) ∧ Below w.heap.size w w' := by
  go_enter Tryz.func190, Tryz.ntmps190
  go_wp2
  go_ret
  exact ⟨rfl, (Below.refl _ _).alloc (Nat.le_refl _) _⟩

theorem oneI {P : List Value} {w : World} {B : Nat} {E : List Op5} (h : PieD w B P E) {k : Nat} {x : Value} (hx : P[k]? = some x) : ∃ e s, E[k]? = some e ∧ x = pieceQ e s ∧ OwnA w B s e.A := by
  obtain ⟨e, he, s, h1, h2⟩ := forall2_get h k x hx
  exact ⟨e, s, he, h1, h2⟩
end Go.Proofs.YthfpmhnnjjikcaaGreatDoor

/- ops: what a piece bears; plain retains; what may follow what. -/
namespace Go.Proofs.YthfpmhnnjjikcaaGreatDoor
open Go Go.RowKit Go.Lib
set_option linter.unusedVariables false

theorem pieceQ_1 {o : Op5} {s : Value} (h : o.k = 1) : pieceQ o s = .iface 188 (.agg #[s, .string o.t, .int .i64 (scs o.t.data.toList).length]) := by unfold pieceQ; rw [if_pos h]
theorem pieceQ_2 {o : Op5} {s : Value} (h : o.k = 2) : pieceQ o s = .iface 192 (.agg #[s, .string o.t, valP o.v]) := by unfold pieceQ; rw [if_neg (by omega), if_pos h]
theorem pieceQ_3 {o : Op5} {s : Value} (h : o.k = 3) : pieceQ o s = .iface 160 (.agg #[s, .int .i64 o.c]) := by unfold pieceQ; rw [if_neg (by omega), if_neg (by omega), if_pos h]
theorem pieceQ_4 {o : Op5} {s : Value} (h : o.k = 4) : pieceQ o s = .iface 105 (.agg #[.int .i64 o.c]) := by unfold pieceQ; rw [if_neg (by omega), if_neg (by omega), if_neg (by omega)]
/-- Is an operation a plain retain? -/
def plainR (o : Op5) : Bool := o.k == 3 && o.A.isEmpty
/-- May an operation stand right behind another one in a canonical list? -/
def apartB (x y : Op5) : Bool := if x.k = 4 then y.k == 3 else if x.k ≠ y.k ∨ x.k = 2 then true else !decide (x.A = y.A)
theorem drop_A {o : Op5} (h : opE o = 0) (hk : o.k = 4) : o.A = [] := by
  rcases op_good h with ⟨_, h1⟩ | ⟨_, _, h1⟩ | ⟨_, h2, _⟩
  · omega
  · omega
  · exact h2

end Go.Proofs.YthfpmhnnjjikcaaGreatDoor

/- ops.Canonical. -/
namespace Go.Proofs.YthfpmhnnjjikcaaGreatDoor
open Go Go.RowKit Go.Lib
set_option linter.unusedVariables false

/-- Each may follow the one ahead of it. -/
def chainB : List Op5 → Bool
  | x :: y :: r => apartB x y && chainB (y :: r)
  | _ => true
/-- The last one isn't a plain retain. -/
def lastP (E : List Op5) : Bool := match E.getLast? with | some o => !plainR o | none => true
/-- Is a list canonical? -/
def canonB (E : List Op5) : Bool := decide ((lensL E).2.2 = 0) && chainB E && lastP E
theorem chain_iff : ∀ {E : List Op5}, chainB E = true ↔ ∀ j x y, E[j]? = some x → E[j + 1]? = some y → apartB x y = true
  | [] => ⟨fun _ j x y h => by simp at h, fun _ => rfl⟩
  | [a] => ⟨fun _ j x y _ h => by simp at h, fun _ => rfl⟩
  | a :: b :: r => by
    rw [chainB, Bool.and_eq_true, chain_iff (E := b :: r)]
    constructor
    · rintro ⟨h1, h2⟩ j x y hx hy
      cases j with
      | zero =>
        obtain rfl : a = x := by simpa using hx
        obtain rfl : b = y := by simpa using hy
        exact h1
      | succ j => exact h2 j x y (by simpa using hx) (by simpa using hy)
    · intro h
      exact ⟨h 0 a b rfl rfl, fun j x y hx hy => h (j + 1) x y (by simpa using hx) (by simpa using hy)⟩
theorem lens_cases (E : List Op5) : (lensL E).2.2 = 0 ↔ (badP E).2 = 0 ∧ (sumL 0 0 E).2.2 = 0 := by
  unfold lensL
  by_cases h : (badP E).2 = 0
  · rw [if_neg (by simpa using h)]; exact ⟨fun h2 => ⟨h, h2⟩, fun h2 => h2.2⟩
  · rw [if_pos h]; exact ⟨fun h2 => absurd h2 h, fun h2 => absurd h2.1 h⟩

end Go.Proofs.YthfpmhnnjjikcaaGreatDoor

/- What vellumref04.SameCell and SameCells answer: whether the cells are the same. -/
namespace Go.Proofs.YthfpmhnnjjikcaaGreatDoor
open Go Go.RowKit Go.Lib
set_option linter.unusedVariables false

abbrev ceC (d : CV) : Array Value := #[.int .i32 d.1, .string d.2.1, .int .i64 d.2.2.1.1, .int .i64 d.2.2.1.2.1, .string d.2.2.1.2.2, slV d.2.2.2]
end Go.Proofs.YthfpmhnnjjikcaaGreatDoor

/- What content.Cut answers. -/
namespace Go.Proofs.YthfpmhnnjjikcaaGreatDoor
open Go Go.RowKit Go.Lib
set_option linter.unusedVariables false

/-- The three boxes of a call that answers two operations. -/
abbrev bx3 (w : World) (o : Op5) (s : Value) : World := ((w.alloc (.cells (opC o s) 33)).alloc (.cells (opC opZ nilS) 33)).alloc (.cells (opC opZ nilS) 33)
theorem bx3_below (w : World) (o : Op5) (s : Value) : Below w.heap.size w (bx3 w o s) := (((Below.refl w.heap.size w).alloc (Nat.le_refl _) _).alloc (by simp) _).alloc (by simp; omega) _
theorem bx3_0 (w : World) (o : Op5) (s : Value) : BoxO (bx3 w o s) w.heap.size o s := ((BoxO.new w o s).below ((Below.refl _ _).alloc (Nat.le_refl _) _)).below ((Below.refl _ _).alloc (Nat.le_refl _) _)
theorem bx3_1 (w : World) (o : Op5) (s : Value) : BoxO (bx3 w o s) (w.heap.size + 1) opZ nilS ∧ FrO (bx3 w o s) (w.heap.size + 1) := by
  have h1 := BoxO.new (w.alloc (.cells (opC o s) 33)) opZ nilS
  have h2 := FrO.new (w.alloc (.cells (opC o s) 33)) opZ nilS
  rw [World.size_alloc] at h1 h2
  exact ⟨h1.below ((Below.refl _ _).alloc (Nat.le_refl _) _), h2.below h1 ((Below.refl _ _).alloc (Nat.le_refl _) _)⟩
theorem bx3_2 (w : World) (o : Op5) (s : Value) : BoxO (bx3 w o s) (w.heap.size + 1 + 1) opZ nilS ∧ FrO (bx3 w o s) (w.heap.size + 1 + 1) := by
  have h1 := BoxO.new ((w.alloc (.cells (opC o s) 33)).alloc (.cells (opC opZ nilS) 33)) opZ nilS
  have h2 := FrO.new ((w.alloc (.cells (opC o s) 33)).alloc (.cells (opC opZ nilS) 33)) opZ nilS
  rw [World.size_alloc, World.size_alloc] at h1 h2
  exact ⟨h1, h2⟩

theorem heap_set7 {B k : Nat} (w' : World) (hk : k ≠ B) (v0 v1 v2 v3 v4 v5 v6 : Value) :
    (((((((w'.setCell ⟨B, 0, none⟩ v0).setCell ⟨B, 1, none⟩ v1).setCell ⟨B, 2, none⟩ v2).setCell ⟨B, 3, none⟩ v3).setCell ⟨B, 4, none⟩ v4).setCell ⟨B, 5, none⟩ v5).setCell ⟨B, 6, none⟩ v6).heap[k]? = w'.heap[k]? := by
  have h : ∀ (W : World) (j : Nat) (v : Value), (W.setCell ⟨B, j, none⟩ v).heap[k]? = W.heap[k]? := fun W j v => Below.heap_setCell _ _ _ _ hk
  rw [h, h, h, h, h, h, h]
theorem cell_set7 {B k j : Nat} (w' : World) (hk : k ≠ B) (v0 v1 v2 v3 v4 v5 v6 : Value) :
    (((((((w'.setCell ⟨B, 0, none⟩ v0).setCell ⟨B, 1, none⟩ v1).setCell ⟨B, 2, none⟩ v2).setCell ⟨B, 3, none⟩ v3).setCell ⟨B, 4, none⟩ v4).setCell ⟨B, 5, none⟩ v5).setCell ⟨B, 6, none⟩ v6).cell? ⟨k, j, none⟩ = w'.cell? ⟨k, j, none⟩ :=
  World.cell?_of_block (a := ⟨k, j, none⟩) (heap_set7 w' hk v0 v1 v2 v3 v4 v5 v6)
theorem below_set7 {b B : Nat} {w w' : World} (h : Below b w w') (hB : b ≤ B) (v0 v1 v2 v3 v4 v5 v6 : Value) :
    Below b w (((((((w'.setCell ⟨B, 0, none⟩ v0).setCell ⟨B, 1, none⟩ v1).setCell ⟨B, 2, none⟩ v2).setCell ⟨B, 3, none⟩ v3).setCell ⟨B, 4, none⟩ v4).setCell ⟨B, 5, none⟩ v5).setCell ⟨B, 6, none⟩ v6) :=
  ((((((h.setCell hB _).setCell hB _).setCell hB _).setCell hB _).setCell hB _).setCell hB _).setCell hB _

end Go.Proofs.YthfpmhnnjjikcaaGreatDoor

/- What content.Cut answers of a text that can be cut. -/
namespace Go.Proofs.YthfpmhnnjjikcaaGreatDoor
open Go Go.RowKit Go.Lib
set_option linter.unusedVariables false
end Go.Proofs.YthfpmhnnjjikcaaGreatDoor

/- What content.Join answers. -/
namespace Go.Proofs.YthfpmhnnjjikcaaGreatDoor
open Go Go.RowKit Go.Lib
set_option linter.unusedVariables false

/-- What a join of two is refused with. -/
def joinE (o o' : Op5) : Nat := if insE o = 0 then insE o' else insE o
/-- Whether two inserts are joined. -/
def joinB (o o' : Op5) : Bool := decide (o.k = 1) && (decide (o'.k = 1) && decide (o.A = o'.A))
def joinO (o o' : Op5) : Op5 := ⟨1, o.t ++ o'.t, z0, 0, o.A⟩
abbrev bxJ (w : World) (o : Op5) (s : Value) (o' : Op5) (s' : Value) : World := ((w.alloc (.cells (opC o s) 33)).alloc (.cells (opC o' s') 33)).alloc (.cells (opC opZ nilS) 33)
theorem bxJ_below (w : World) (o : Op5) (s : Value) (o' : Op5) (s' : Value) : Below w.heap.size w (bxJ w o s o' s') := (((Below.refl w.heap.size w).alloc (Nat.le_refl _) _).alloc (by simp) _).alloc (by simp; omega) _
theorem bxJ_1 (w : World) (o : Op5) (s : Value) (o' : Op5) (s' : Value) : BoxO (bxJ w o s o' s') (w.heap.size + 1) o' s' := by
  have h1 := BoxO.new (w.alloc (.cells (opC o s) 33)) o' s'
  rw [World.size_alloc] at h1
  exact h1.below ((Below.refl _ _).alloc (Nat.le_refl _) _)
theorem bxJ_2 (w : World) (o : Op5) (s : Value) (o' : Op5) (s' : Value) : BoxO (bxJ w o s o' s') (w.heap.size + 1 + 1) opZ nilS ∧ FrO (bxJ w o s o' s') (w.heap.size + 1 + 1) := by
  have h1 := BoxO.new ((w.alloc (.cells (opC o s) 33)).alloc (.cells (opC o' s') 33)) opZ nilS
  have h2 := FrO.new ((w.alloc (.cells (opC o s) 33)).alloc (.cells (opC o' s') 33)) opZ nilS
  rw [World.size_alloc, World.size_alloc] at h1 h2
  exact ⟨h1, h2⟩

end Go.Proofs.YthfpmhnnjjikcaaGreatDoor

/- content.textCells: the cells of a text. -/
namespace Go.Proofs.YthfpmhnnjjikcaaGreatDoor
open Go Go.RowKit Go.Lib
set_option linter.unusedVariables false

/-- Cells of scalars with one list. -/
def mkC (A : List A2) (rs : List Nat) : List C5 := rs.map fun (r : Nat) => (((r : Nat) : Int), ⟨#[]⟩, z0, A)
theorem mkC_len (A : List A2) (rs : List Nat) : (mkC A rs).length = rs.length := by simp [mkC]
theorem one_rowC (w : World) (d : CV) : RowC (w.alloc (.cells (ceC d) 84)) (.slice (some ⟨w.heap.size, 0, none⟩) 1 1) [d] :=
  ⟨_, 1, rfl, Nat.le_refl _, fun h => (by cases h), fun _ => ⟨w.heap.size, 0, rfl, fun j u hu => by
    match j, hu with
    | 0, hu => simp [cellsC] at hu; subst hu; simp [ceC]
    | 1, hu => simp [cellsC] at hu; subst hu; simp [ceC]
    | 2, hu => simp [cellsC] at hu; subst hu; simp [ceC]
    | 3, hu => simp [cellsC] at hu; subst hu; simp [ceC]
    | 4, hu => simp [cellsC] at hu; subst hu; simp [ceC]
    | 5, hu => simp [cellsC] at hu; subst hu; simp [ceC]
    | j + 6, hu => simp [cellsC] at hu⟩⟩
theorem keepA_iterAt {w : World} {K : Nat} {s : ByteArray} {p0 : Nat} (hk : w.heap[K]? = some (.stringIter s p0)) (p : Nat) : KeepA w (w.iterAt K s p) := fun k cur hc => by
  have hne : k ≠ K := fun e => by subst e; rw [hk] at hc; cases hc
  simp [World.iterAt, Ne.symm hne]
theorem ownsC_iterAt {w : World} {B : Nat} {v : Value} {D : List CV} (h : OwnC w B v D) {K : Nat} {s : ByteArray} {p0 : Nat} (hk : w.heap[K]? = some (.stringIter s p0)) (p : Nat) : OwnC (w.iterAt K s p) B v D :=
  owns_same h fun k hb => by
    obtain ⟨_, cur, hc⟩ := owns_block h k hb
    have hne : k ≠ K := fun e => by subst e; rw [hk] at hc; cases hc
    simp [World.iterAt, Ne.symm hne]

end Go.Proofs.YthfpmhnnjjikcaaGreatDoor

/- What the values' methods answer: Kind, Plain; how values of the interface compare. -/
namespace Go.Proofs.YthfpmhnnjjikcaaGreatDoor
open Go Go.RowKit Go.Lib
set_option linter.unusedVariables false
theorem plain_n (w : World) : Calls Tryz.prog 205 #[.agg #[]] w fun e w' => e = .returned (pl 0 0 ⟨#[]⟩) ∧ Below w.heap.size w w' := by
  go_enter Tryz.func205, Tryz.ntmps205
  go_wp2
  exact bodyPost_ret (v := pl 0 0 ⟨#[]⟩) (by simp [results, Tryz.results205, go_sem]) rfl ⟨rfl, by go_grown⟩
theorem plain_f (b : Bool) (w : World) : Calls Tryz.prog 199 #[.bool b] w fun e w' => e = .returned (pl 1 (if b then 1 else 0) ⟨#[]⟩) ∧ Below w.heap.size w w' := by
  cases b
  · go_enter Tryz.func199, Tryz.ntmps199
    go_wp2
    exact bodyPost_ret (v := pl 1 0 ⟨#[]⟩) (by simp [results, Tryz.results199, go_sem]) rfl ⟨rfl, by go_grown⟩
  · go_enter Tryz.func199, Tryz.ntmps199
    go_wp2
    exact bodyPost_ret (v := pl 1 1 ⟨#[]⟩) (by simp [results, Tryz.results199, go_sem]) rfl ⟨rfl, by go_grown⟩
theorem plain_d (n : Int) (w : World) : Calls Tryz.prog 201 #[.int .i64 n] w fun e w' => e = .returned (pl 2 n ⟨#[]⟩) ∧ Below w.heap.size w w' := by
  go_enter Tryz.func201, Tryz.ntmps201
  go_wp2
  exact bodyPost_ret (v := pl 2 n ⟨#[]⟩) (by simp [results, Tryz.results201, go_sem]) rfl ⟨rfl, by go_grown⟩
theorem plain_t (t : ByteArray) (w : World) : Calls Tryz.prog 203 #[.string t] w fun e w' => e = .returned (pl 3 0 t) ∧ Below w.heap.size w w' := by
  go_enter Tryz.func203, Tryz.ntmps203
  go_wp2
  exact bodyPost_ret (v := pl 3 0 t) (by simp [results, Tryz.results203, go_sem]) rfl ⟨rfl, by go_grown⟩

/-! '==' at api.Value. -/
theorem compNull : (Tryz.prog.info? 230).map (·.comparable) = some true := by kernel_rfl
theorem compFlag : (Tryz.prog.info? 226).map (·.comparable) = some true := by kernel_rfl
theorem compNum : (Tryz.prog.info? 227).map (·.comparable) = some true := by kernel_rfl
theorem compText : (Tryz.prog.info? 228).map (·.comparable) = some true := by kernel_rfl

theorem eql_same_type {tx : TypeId} {vx vy : Value} {b : Bool} (w : World) (hc : (Tryz.prog.info? tx).map (·.comparable) = some true)
    (h : ∀ d : Nat, (Op.equalIn (d + 1) tx vx vy).run Tryz.prog w = .ok b w) : (binOp .eql 190 (.iface tx vx) (.iface tx vy)).run Tryz.prog w = .ok (.bool b) w := by
  cases hi : Tryz.prog.info? tx with
  | none => simp [hi] at hc
  | some i =>
    have hcc : i.comparable = true := by simpa [hi] using hc
    have h2 : ∀ d : Nat, (Op.equalIn (d + 2) 190 (.iface tx vx) (.iface tx vy)).run Tryz.prog w = .ok b w := fun d => by
      rw [Op.equalIn]
      simp [run_underlying Tryz.underlying190, typeInfo, hi, hcc, h d]
    simp only [binOp]
    simp [Op.equal, Op.maxDepth, h2 9998]

theorem eql_null (w : World) : (binOp .eql 190 (.iface 230 (.agg #[])) (.iface 230 (.agg #[]))).run Tryz.prog w = .ok (.bool true) w :=
  eql_same_type w compNull fun d => by
    rw [run_equalIn_agg w d 230 _ _ (by kernel_rfl) (by kernel_rfl)]
    simp [Program.fieldsOf, Tryz.underlying230, Op.eqFields]
theorem eql_flag (a b : Bool) (w : World) : (binOp .eql 190 (.iface 226 (.bool a)) (.iface 226 (.bool b))).run Tryz.prog w = .ok (.bool (a == b)) w :=
  eql_same_type w compFlag fun d => run_equalIn_bool' w d _ a b Tryz.underlying226
theorem eql_num (a b : Int) (w : World) : (binOp .eql 190 (.iface 227 (.int .i64 a)) (.iface 227 (.int .i64 b))).run Tryz.prog w = .ok (.bool (a == b)) w :=
  eql_same_type w compNum fun d => run_equalIn_int w d _ .i64 .i64 a b Tryz.underlying227
theorem eql_text (a b : ByteArray) (w : World) : (binOp .eql 190 (.iface 228 (.string a)) (.iface 228 (.string b))).run Tryz.prog w = .ok (.bool (a.toList == b.toList)) w :=
  eql_same_type w compText fun d => run_equalIn_string w d _ a b Tryz.underlying228
theorem eql_types {tx ty : TypeId} (vx vy : Value) (h : tx ≠ ty) (w : World) : (binOp .eql 190 (.iface tx vx) (.iface ty vy)).run Tryz.prog w = .ok (.bool false) w :=
  run_eql_iface_types tx ty vx vy Tryz.underlying190 h w
end Go.Proofs.YthfpmhnnjjikcaaGreatDoor

/- What content.Cells and content.Newlines answer. -/
namespace Go.Proofs.YthfpmhnnjjikcaaGreatDoor
open Go Go.RowKit Go.Lib
set_option linter.unusedVariables false

/-- An insert's cells. -/
def cellsOf (o : Op5) : List C5 := if o.k = 1 then mkC o.A (scs o.t.data.toList) else [(-1, o.t, o.v, o.A)]
theorem cellsOf_len (o : Op5) : (cellsOf o).length = lenO o := by
  unfold cellsOf lenO
  split
  · exact mkC_len _ _
  · rfl
theorem cellsOf_A (o : Op5) : ∀ e ∈ cellsOf o, e.2.2.2 = o.A := fun e he => by
  unfold cellsOf at he
  split at he
  · unfold mkC at he
    obtain ⟨r, _, rfl⟩ := List.mem_map.1 he
    rfl
  · obtain rfl := List.mem_singleton.1 he
    rfl
theorem own_oneC (w : World) (B : Nat) (hB : B ≤ w.heap.size) (d : CV) : OwnC (w.alloc (.cells (ceC d) 84)) B (.slice (some ⟨w.heap.size, 0, none⟩) 1 1) [d] :=
  ⟨rfl, Or.inr ⟨w.heap.size, 1, ceC d, rfl, hB, by show (w.heap.push _)[w.heap.size]? = _; simp, Nat.le_refl _, by decide, rfl, rfl⟩⟩

/-- How many newlines an insert has. -/
def newlO (o : Op5) : Nat := if o.k = 1 then countByte o.t.data.toList 10 else 0

theorem plain_f0 (w : World) : Calls Tryz.prog 199 #[.bool false] w fun e w' => e = .returned (pl 1 0 ⟨#[]⟩) ∧ Below w.heap.size w w' := plain_f false w
theorem plain_f1 (w : World) : Calls Tryz.prog 199 #[.bool true] w fun e w' => e = .returned (pl 1 1 ⟨#[]⟩) ∧ Below w.heap.size w w' := plain_f true w

end Go.Proofs.YthfpmhnnjjikcaaGreatDoor

/- vellumlaw04.lives. -/
namespace Go.Proofs.YthfpmhnnjjikcaaGreatDoor
open Go Go.RowKit Go.Lib
set_option linter.unusedVariables false

abbrev tA : ByteArray := ⟨#[97, 195, 169, 226, 130, 172]⟩
abbrev tH : ByteArray := ⟨#[97, 195, 169]⟩
abbrev tR : ByteArray := ⟨#[226, 130, 172]⟩
abbrev tX : ByteArray := ⟨#[120]⟩
abbrev tB : ByteArray := ⟨#[98, 10]⟩
abbrev txO (t : ByteArray) : Op5 := ⟨1, t, z0, 0, []⟩
abbrev exO (t : ByteArray) : Op5 := ⟨2, t, z0, 0, []⟩
theorem ins_tx (t : ByteArray) (h1 : t.toList.isEmpty = false) (h2 : brk t.data.toList = t.size) : Ins (txO t) := ⟨Or.inl ⟨rfl, rfl⟩, h1, rfl, h2, chk_z0, rfl⟩
theorem ins_ex (t : ByteArray) (h1 : t.toList.isEmpty = false) (h2 : brk t.data.toList = t.size) (h3 : t.size ≤ 64) : Ins (exO t) := ⟨Or.inr ⟨rfl, h3⟩, h1, rfl, h2, chk_z0, rfl⟩
theorem fit_tx (k : Int) (t : ByteArray) (h : t.size ≤ 8388608) : Fit ⟨k, t, z0, 0, []⟩ := ⟨h, by show (0 : Nat) ≤ 1048576; decide, fun q hq => (by cases hq), by show (0 : Nat) ≤ 1048576; decide⟩
theorem iA : Ins (txO tA) := ins_tx _ (by rw [toList_data]; rfl) (by kernel_rfl)
theorem iH : Ins (txO tH) := ins_tx _ (by rw [toList_data]; rfl) (by kernel_rfl)
theorem iR : Ins (txO tR) := ins_tx _ (by rw [toList_data]; rfl) (by kernel_rfl)
theorem iB : Ins (txO tB) := ins_tx _ (by rw [toList_data]; rfl) (by kernel_rfl)
theorem iX : Ins (exO tX) := ins_ex _ (by rw [toList_data]; rfl) (by kernel_rfl) (by decide)
theorem scsA : scs tA.data.toList = [97, 233, 8364] := by kernel_rfl
theorem scsB : scs tB.data.toList = [98, 10] := by kernel_rfl
theorem posA : pos (scs tA.data.toList) 2 = 3 := by rw [scsA]; kernel_rfl
theorem extH : tA.extract 0 3 = tH := by kernel_rfl
theorem extR : tA.extract 3 tA.size = tR := by kernel_rfl
theorem catA : tH ++ tR = tA := by kernel_rfl
theorem newlB : newlO (txO tB) = 1 := by kernel_rfl
theorem lenX : lenO (exO tX) = 1 := rfl
theorem RN.val0 {w : World} {v : Value} (h : RN w v []) : ∃ p c, v = .slice p 0 c := by
  obtain ⟨p, c, h, _⟩ := h.row.val
  exact ⟨p, c, h⟩

end Go.Proofs.YthfpmhnnjjikcaaGreatDoor

/- Joins of inserts, purely; Join at all operations. -/
namespace Go.Proofs.YthfpmhnnjjikcaaGreatDoor
open Go Go.RowKit Go.Lib
set_option linter.unusedVariables false

theorem chkP_le (p : P3) : chkP p ≤ 10 := chk_le _ _ _
theorem listE_le' (nulls : Bool) : ∀ (L : List A2) (pv : Option ByteArray), listE nulls pv L ≤ 10
  | [], _ => Nat.zero_le _
  | q :: r, pv => by
    have hp : pairE q ≤ 10 := by
      unfold pairE
      split
      · omega
      · split
        · omega
        · exact chk_le _ _ _
    rw [listE]
    split
    · split
      · omega
      · split
        · exact listE_le' nulls r _
        · omega
    · exact hp
theorem insE_le19 (o : Op5) : insE o ≤ 19 := by
  have := insE_le o (fun L => listE_le' false L none)
  omega
theorem joinE_le (o o' : Op5) : joinE o o' ≤ 19 := by
  unfold joinE
  have := insE_le19 o
  have := insE_le19 o'
  split <;> omega
def jB (o o' : Op5) : Bool := decide (joinE o o' = 0) && joinB o o'
def jR (o o' : Op5) : Op5 := if jB o o' = true then joinO o o' else opZ
theorem jB_yes {o o' : Op5} (h : jB o o' = true) : Ins o ∧ Ins o' ∧ o.k = 1 ∧ o'.k = 1 ∧ o.A = o'.A := by
  unfold jB joinB joinE at h
  simp only [Bool.and_eq_true, decide_eq_true_eq] at h
  obtain ⟨h1, h2, h3, h4⟩ := h
  by_cases hi : insE o = 0
  · rw [if_pos hi] at h1
    exact ⟨ins_of hi, ins_of h1, h2, h3, h4⟩
  · rw [if_neg hi] at h1
    exact absurd h1 hi
theorem jB_of {o o' : Op5} (h : Ins o) (h' : Ins o') (hk : o.k = 1) (hk' : o'.k = 1) (hA : o.A = o'.A) : jB o o' = true := by
  unfold jB joinB joinE
  simp [h.zero, h'.zero, hk, hk', hA]
theorem jB_no {o o' : Op5} (h : ¬ (o.k = 1 ∧ o'.k = 1 ∧ o.A = o'.A)) : jB o o' = false := by
  cases hj : jB o o'
  · rfl
  · obtain ⟨_, _, h1, h2, h3⟩ := jB_yes hj
    exact absurd ⟨h1, h2, h3⟩ h
theorem jB_err {o o' : Op5} {e : Nat} (h : joinE o o' = e + 1) : jB o o' = false := by
  unfold jB
  simp [h]
theorem isEmp_size {t : ByteArray} (h : t.toList.isEmpty = false) : 0 < t.size := by
  rcases Nat.eq_zero_or_pos t.size with h0 | h0
  · exfalso
    have : t.toList = [] := by rw [toList_data]; exact List.eq_nil_of_length_eq_zero (by rw [size_toList]; exact h0)
    rw [this] at h; cases h
  · exact h0
theorem size_isEmp {t : ByteArray} (h : 0 < t.size) : t.toList.isEmpty = false := by
  cases he : t.toList.isEmpty
  · rfl
  · rw [emp_iff] at he
    subst he
    exact absurd h (by decide)
theorem cat_list (a b : ByteArray) : (a ++ b).data.toList = a.data.toList ++ b.data.toList := by rw [ByteArray.data_append, Array.toList_append]
theorem scs_cat {a b : List UInt8} (ha : brk a = a.length) (hb : brk b = b.length) : scs (a ++ b) = scs a ++ scs b ∧ brk (a ++ b) = (a ++ b).length := by
  have ea := valid_of_brk ha
  have eb := valid_of_brk hb
  obtain ⟨_, h1, _, _⟩ := text_cases a
  obtain ⟨_, h2, _, _⟩ := text_cases b
  have h12 : ∀ r ∈ scs a ++ scs b, scal r := fun r hr => by
    rcases List.mem_append.1 hr with h | h
    · exact h1 r h
    · exact h2 r h
  have e : a ++ b = encs (scs a ++ scs b) ++ [] := by
    rw [List.append_nil, encs_append, ← ea, ← eb]
  refine ⟨?_, ?_⟩
  · conv => lhs; rw [e]
    exact scs_eq h12 (Or.inl rfl)
  · conv => lhs; rw [e]
    rw [brk_eq h12 (Or.inl rfl), encs_append, ← ea, ← eb]
theorem ins_join {o o' : Op5} (h : Ins o) (h' : Ins o') : Ins (joinO o o') := by
  have hs : (o.t ++ o'.t).size = o.t.size + o'.t.size := ByteArray.size_append
  refine ⟨Or.inl ⟨rfl, rfl⟩, size_isEmp ?_, rfl, ?_, chk_z0, h.set⟩
  · have := isEmp_size h.full
    show 0 < (o.t ++ o'.t).size
    omega
  · show brk (o.t ++ o'.t).data.toList = (o.t ++ o'.t).size
    rw [cat_list, (scs_cat (by rw [h.utf, size_toList]) (by rw [h'.utf, size_toList])).2, List.length_append, size_toList, size_toList, hs]
theorem cells_join {o o' : Op5} (h : Ins o) (h' : Ins o') (hk : o.k = 1) (hk' : o'.k = 1) (hA : o.A = o'.A) : cellsOf (joinO o o') = cellsOf o ++ cellsOf o' := by
  unfold cellsOf
  rw [if_pos (show (joinO o o').k = 1 from rfl), if_pos hk, if_pos hk', ← hA]
  show mkC o.A (scs (o.t ++ o'.t).data.toList) = _
  rw [cat_list, (scs_cat (by rw [h.utf, size_toList]) (by rw [h'.utf, size_toList])).1]
  simp [mkC]
theorem join_assoc (x y z : Op5) : joinO (joinO x y) z = joinO x (joinO y z) := by
  unfold joinO
  simp only [ByteArray.append_assoc]
theorem fit_join {o o' : Op5} (h : Fit o) (hs : o.t.size + o'.t.size ≤ 8388608) : Fit (joinO o o') := ⟨by show (o.t ++ o'.t).size ≤ _; rw [ByteArray.size_append]; exact hs, by show (0 : Nat) ≤ 1048576; decide, h.A, h.n⟩
theorem fit_Z : Fit opZ := ⟨by show (0 : Nat) ≤ 8388608; decide, by show (0 : Nat) ≤ 1048576; decide, fun q hq => (by cases hq), by show (0 : Nat) ≤ 1048576; decide⟩

end Go.Proofs.YthfpmhnnjjikcaaGreatDoor

/- Deltas unit by unit: what operations are, cell by cell and gap by gap; canonical lists are told apart by it. -/
namespace Go.Proofs.YthfpmhnnjjikcaaGreatDoor
open Go Go.RowKit Go.Lib
set_option linter.unusedVariables false

/-- A unit of a delta: a cell that comes, a cell that stays with a patch, a cell that goes. -/
inductive U6 where
  | ins (c : C5)
  | keep (A : List A2)
  | del
/-- An operation that is well formed but for the upper bound of its count. -/
def Wel (o : Op5) : Prop := (Ins o ∧ (o.k = 1 ∨ o.k = 2)) ∨ (o.k = 3 ∧ o.t = ⟨#[]⟩ ∧ o.v = z0 ∧ 1 ≤ o.c ∧ listE true none o.A = 0) ∨ (o.k = 4 ∧ o.t = ⟨#[]⟩ ∧ o.v = z0 ∧ 1 ≤ o.c ∧ o.A = [])
theorem wel_of {o : Op5} (h : opE o = 0) : Wel o := by
  rcases op_good h with h | ⟨h1, h2, h3⟩ | ⟨h1, h2, h3⟩
  · exact Or.inl h
  · exact Or.inr (Or.inl ⟨h3, emp_iff.1 h1.text, h1.val, h1.lo, h2⟩)
  · exact Or.inr (Or.inr ⟨h3, emp_iff.1 h1.text, h1.val, h1.lo, h2⟩)
theorem Wel.good {o : Op5} (h : Wel o) (hc : o.c ≤ 1099511627776) : opE o = 0 := by
  rcases h with ⟨h1, h2⟩ | ⟨h1, h2, h3, h4, h5⟩ | ⟨h1, h2, h3, h4, h5⟩
  · unfold opE; rw [if_pos h2]; exact h1.zero
  · unfold opE
    rw [if_neg (by omega), if_pos h1, if_neg (by simpa using cnt_iff.2 ⟨emp_iff.2 h2, h3, h4, hc⟩)]
    exact h5
  · unfold opE
    rw [if_neg (by omega), if_neg (by omega), if_pos h1, if_neg (by simpa using h5)]
    exact cnt_iff.2 ⟨emp_iff.2 h2, h3, h4, hc⟩
theorem Wel.kinds {o : Op5} (h : Wel o) : o.k = 1 ∨ o.k = 2 ∨ o.k = 3 ∨ o.k = 4 := by
  rcases h with ⟨_, h⟩ | ⟨h, _⟩ | ⟨h, _⟩ <;> omega
/-- What an operation is, unit by unit. -/
def unitsO (o : Op5) : List U6 :=
  if o.k = 1 ∨ o.k = 2 then (cellsOf o).map .ins else if o.k = 3 then List.replicate o.c.toNat (.keep o.A) else List.replicate o.c.toNat .del
def units : List Op5 → List U6
  | [] => []
  | o :: r => unitsO o ++ units r
theorem units_append : ∀ E F : List Op5, units (E ++ F) = units E ++ units F
  | [], F => rfl
  | o :: r, F => by
    show unitsO o ++ units (r ++ F) = _
    rw [units_append r F, ← List.append_assoc]; rfl
theorem units_one (o : Op5) : units [o] = unitsO o := by show unitsO o ++ [] = _; rw [List.append_nil]

/-- May two units be of one operation? -/
def runB : U6 → U6 → Prop
  | .ins c, .ins d => 0 ≤ c.1 ∧ 0 ≤ d.1 ∧ c.2.2.2 = d.2.2.2
  | .keep A, .keep B => A = B
  | .del, .del => True
  | _, _ => False
instance (u v : U6) : Decidable (runB u v) := by cases u <;> cases v <;> unfold runB <;> infer_instance

theorem mem_cells1 {o : Op5} (hk : o.k = 1) {u : U6} (h : u ∈ (cellsOf o).map U6.ins) : ∃ r : Nat, u = .ins ((r : Int), ⟨#[]⟩, z0, o.A) := by
  obtain ⟨c, hc, rfl⟩ := List.mem_map.1 h
  unfold cellsOf at hc
  rw [if_pos hk, mkC] at hc
  obtain ⟨r, _, rfl⟩ := List.mem_map.1 hc
  exact ⟨r, rfl⟩
theorem cells2 {o : Op5} (hk : o.k = 2) : (cellsOf o).map U6.ins = [.ins (-1, o.t, o.v, o.A)] := by
  unfold cellsOf
  rw [if_neg (by omega)]; rfl
theorem scs_ne {t : ByteArray} (h : t.toList.isEmpty = false) (hb : brk t.data.toList = t.size) : scs t.data.toList ≠ [] := fun e => by
  have h1 := isEmp_size h
  unfold brk at hb
  rw [e] at hb
  simp [encs] at hb
  omega
/-- Every operation has a unit. -/
theorem unitsO_ne {o : Op5} (h : Wel o) : unitsO o ≠ [] := by
  unfold unitsO
  rcases h with ⟨h1, h2⟩ | ⟨h1, h2, h3, h4, h5⟩ | ⟨h1, h2, h3, h4, h5⟩
  · rw [if_pos h2]
    rcases h2 with h2 | h2
    · unfold cellsOf
      rw [if_pos h2, mkC]
      intro e
      rw [List.map_eq_nil_iff, List.map_eq_nil_iff] at e
      exact scs_ne h1.full h1.utf e
    · rw [cells2 h2]; simp
  · rw [if_neg (by omega), if_pos h1]
    intro e
    have := congrArg List.length e
    simp at this
    omega
  · rw [if_neg (by omega), if_neg (by omega)]
    intro e
    have := congrArg List.length e
    simp at this
    omega
/-- What a unit of an operation tells of it. -/
theorem unit_cases {o : Op5} (h : Wel o) {u : U6} (hu : u ∈ unitsO o) : (o.k = 1 ∧ ∃ r : Nat, u = .ins ((r : Int), ⟨#[]⟩, z0, o.A)) ∨ (o.k = 2 ∧ u = .ins (-1, o.t, o.v, o.A)) ∨ (o.k = 3 ∧ u = .keep o.A) ∨ (o.k = 4 ∧ u = .del) := by
  unfold unitsO at hu
  rcases h.kinds with hk | hk | hk | hk
  · rw [if_pos (Or.inl hk)] at hu
    exact Or.inl ⟨hk, mem_cells1 hk hu⟩
  · rw [if_pos (Or.inr hk), cells2 hk] at hu
    exact Or.inr (Or.inl ⟨hk, List.mem_singleton.1 hu⟩)
  · rw [if_neg (by omega), if_pos hk] at hu
    exact Or.inr (Or.inr (Or.inl ⟨hk, List.eq_of_mem_replicate hu⟩))
  · rw [if_neg (by omega), if_neg (by omega)] at hu
    exact Or.inr (Or.inr (Or.inr ⟨hk, List.eq_of_mem_replicate hu⟩))
theorem run_in {o : Op5} (h : Wel o) (hk : o.k ≠ 2) {u v : U6} (hu : u ∈ unitsO o) (hv : v ∈ unitsO o) : runB u v := by
  rcases unit_cases h hu with ⟨h1, r, rfl⟩ | ⟨h1, rfl⟩ | ⟨h1, rfl⟩ | ⟨h1, rfl⟩
  · rcases unit_cases h hv with ⟨h2, r', rfl⟩ | ⟨h2, rfl⟩ | ⟨h2, rfl⟩ | ⟨h2, rfl⟩
    · exact ⟨by simp, by simp, rfl⟩
    all_goals omega
  · exact absurd h1 hk
  · rcases unit_cases h hv with ⟨h2, r', rfl⟩ | ⟨h2, rfl⟩ | ⟨h2, rfl⟩ | ⟨h2, rfl⟩
    any_goals omega
    rfl
  · rcases unit_cases h hv with ⟨h2, r', rfl⟩ | ⟨h2, rfl⟩ | ⟨h2, rfl⟩ | ⟨h2, rfl⟩
    any_goals omega
    trivial
theorem run_apart {x y : Op5} (hx : Wel x) (hy : Wel y) (ha : apartB x y = true) {u v : U6} (hu : u ∈ unitsO x) (hv : v ∈ unitsO y) : ¬ runB u v := by
  unfold apartB at ha
  rcases unit_cases hx hu with ⟨h1, r, rfl⟩ | ⟨h1, rfl⟩ | ⟨h1, rfl⟩ | ⟨h1, rfl⟩ <;> rcases unit_cases hy hv with ⟨h2, r', rfl⟩ | ⟨h2, rfl⟩ | ⟨h2, rfl⟩ | ⟨h2, rfl⟩
  all_goals first | (intro h; cases h; done) | skip
  · rw [if_neg (by omega), if_neg (by omega)] at ha
    rintro ⟨_, _, h⟩
    simp only at h
    simp [h] at ha
  · rintro ⟨_, h, _⟩
    simp at h
  · rintro ⟨h, _, _⟩
    simp at h
  · rintro ⟨h, _, _⟩
    simp at h
  · rw [if_neg (by omega), if_neg (by omega)] at ha
    intro h
    have h : x.A = y.A := h
    simp [h] at ha
  · rw [if_pos h1, h2] at ha
    cases ha
theorem scs_injB {t t' : ByteArray} (h : brk t.data.toList = t.size) (h' : brk t'.data.toList = t'.size) (e : scs t.data.toList = scs t'.data.toList) : t = t' := by
  have e1 := valid_of_brk (l := t.data.toList) (by rw [h, size_toList])
  have e2 := valid_of_brk (l := t'.data.toList) (by rw [h', size_toList])
  apply ByteArray.ext
  apply Array.ext'
  rw [e1, e2, e]
theorem op_ext {x y : Op5} (h1 : x.k = y.k) (h2 : x.t = y.t) (h3 : x.v = y.v) (h4 : x.c = y.c) (h5 : x.A = y.A) : x = y := by
  cases x; cases y; simp only at h1 h2 h3 h4 h5; subst h1 h2 h3 h4 h5; rfl
/-- An operation is told by its units. -/
theorem unitsO_inj {x y : Op5} (hx : Wel x) (hy : Wel y) (h : unitsO x = unitsO y) : x = y := by
  obtain ⟨u, us, hu⟩ := List.exists_cons_of_ne_nil (unitsO_ne hx)
  have m1 : u ∈ unitsO x := by rw [hu]; exact List.mem_cons_self ..
  have m2 : u ∈ unitsO y := by rw [← h]; exact m1
  unfold unitsO at h
  rcases unit_cases hx m1 with ⟨h1, r, rfl⟩ | ⟨h1, rfl⟩ | ⟨h1, rfl⟩ | ⟨h1, rfl⟩ <;> rcases unit_cases hy m2 with ⟨h2, r', e⟩ | ⟨h2, e⟩ | ⟨h2, e⟩ | ⟨h2, e⟩
  any_goals (simp at e; done)
  · rw [if_pos (Or.inl h1), if_pos (Or.inl h2)] at h
    simp only [U6.ins.injEq, Prod.mk.injEq] at e
    obtain ⟨i1, _⟩ := hx.resolve_right (by rintro (h | h) <;> omega)
    obtain ⟨i2, _⟩ := hy.resolve_right (by rintro (h | h) <;> omega)
    unfold cellsOf at h
    rw [if_pos h1, if_pos h2, mkC, mkC, ← e.2.2.2, List.map_map, List.map_map] at h
    have := (List.map_inj_right (fun (a b : Nat) (hab : (U6.ins ((a : Int), (⟨#[]⟩ : ByteArray), z0, x.A)) = U6.ins ((b : Int), ⟨#[]⟩, z0, x.A)) => by
      simp only [U6.ins.injEq, Prod.mk.injEq] at hab
      exact Int.ofNat_inj.1 hab.1)).1 h
    refine op_ext (by omega) (scs_injB i1.utf i2.utf this) ?_ (by rw [i1.count, i2.count]) e.2.2.2
    rw [(i1.kind.resolve_right (by omega)).2, (i2.kind.resolve_right (by omega)).2]
  · simp only [U6.ins.injEq, Prod.mk.injEq] at e
    obtain ⟨i1, _⟩ := hx.resolve_right (by rintro (h | h) <;> omega)
    obtain ⟨i2, _⟩ := hy.resolve_right (by rintro (h | h) <;> omega)
    exact op_ext (by omega) e.2.1 e.2.2.1 (by rw [i1.count, i2.count]) e.2.2.2
  · rw [if_neg (by omega), if_pos h1, if_neg (by omega), if_pos h2] at h
    have hl := congrArg List.length h
    simp only [List.length_replicate] at hl
    obtain ⟨_, a1, a2, a3, _⟩ := (hx.resolve_left (fun h => by omega)).resolve_right (fun h => by omega)
    obtain ⟨_, b1, b2, b3, _⟩ := (hy.resolve_left (fun h => by omega)).resolve_right (fun h => by omega)
    simp only [U6.keep.injEq] at e
    exact op_ext (by omega) (by rw [a1, b1]) (by rw [a2, b2]) (by omega) e
  · rw [if_neg (by omega), if_neg (by omega), if_neg (by omega), if_neg (by omega)] at h
    have hl := congrArg List.length h
    simp only [List.length_replicate] at hl
    obtain ⟨_, a1, a2, a3, a4⟩ := (hx.resolve_left (fun h => by omega)).resolve_left (fun h => by omega)
    obtain ⟨_, b1, b2, b3, b4⟩ := (hy.resolve_left (fun h => by omega)).resolve_left (fun h => by omega)
    exact op_ext (by omega) (by rw [a1, b1]) (by rw [a2, b2]) (by omega) (by rw [a4, b4])
theorem takeWhile_run {p : U6 → Bool} : ∀ {a b : List U6}, (∀ v ∈ a, p v = true) → (∀ v, b.head? = some v → p v = false) → (a ++ b).takeWhile p = a
  | [], [], _, _ => rfl
  | [], v :: b, _, h => by rw [List.nil_append, List.takeWhile_cons, h v rfl]; rfl
  | u :: a, b, h, hb => by
    rw [List.cons_append, List.takeWhile_cons, h u (List.mem_cons_self ..)]
    simp only [if_true]
    rw [takeWhile_run (fun v hv => h v (List.mem_cons_of_mem _ hv)) hb]
theorem head_units {y : Op5} {r : List Op5} (hy : Wel y) {v : U6} (h : (units (y :: r)).head? = some v) : v ∈ unitsO y := by
  obtain ⟨u, us, hu⟩ := List.exists_cons_of_ne_nil (unitsO_ne hy)
  have : (units (y :: r)).head? = some u := by show (unitsO y ++ units r).head? = _; rw [hu]; rfl
  rw [this] at h
  obtain rfl := Option.some.inj h
  rw [hu]; exact List.mem_cons_self ..
theorem chain_tail {x : Op5} {r : List Op5} (h : chainB (x :: r) = true) : chainB r = true := by
  cases r with
  | nil => rfl
  | cons y r => rw [chainB, Bool.and_eq_true] at h; exact h.2
/-- **Lists in which no two neighbours might be one are told by their units.** -/
theorem units_inj : ∀ {E F : List Op5}, (∀ o ∈ E, Wel o) → (∀ o ∈ F, Wel o) → chainB E = true → chainB F = true → units E = units F → E = F
  | [], [], _, _, _, _, _ => rfl
  | [], y :: s, _, hF, _, _, h => by
    exfalso
    have := unitsO_ne (hF y (List.mem_cons_self ..))
    have h : [] = unitsO y ++ units s := h
    exact this (List.append_eq_nil_iff.1 h.symm).1
  | x :: r, [], hE, _, _, _, h => by
    exfalso
    have := unitsO_ne (hE x (List.mem_cons_self ..))
    have h : unitsO x ++ units r = [] := h
    exact this (List.append_eq_nil_iff.1 h).1
  | x :: r, y :: s, hE, hF, cE, cF, h => by
    have wx := hE x (List.mem_cons_self ..)
    have wy := hF y (List.mem_cons_self ..)
    have h' : unitsO x ++ units r = unitsO y ++ units s := h
    have run : ∀ {z : Op5} {q : List Op5} (hz : Wel z) (hq : ∀ o ∈ q, Wel o) (hc : chainB (z :: q) = true) (hk : z.k ≠ 2) (u : U6) (hu : u ∈ unitsO z), (unitsO z ++ units q).takeWhile (fun v => decide (runB u v)) = unitsO z := fun {z q} hz hq hc hk u hu => by
      refine takeWhile_run (fun v hv => decide_eq_true (run_in hz hk hu hv)) (fun v hv => decide_eq_false ?_)
      cases q with
      | nil => cases hv
      | cons w q =>
        have ww := hq w (List.mem_cons_self ..)
        rw [chainB, Bool.and_eq_true] at hc
        exact run_apart hz ww hc.1 hu (head_units ww hv)
    obtain ⟨u, us, hu⟩ := List.exists_cons_of_ne_nil (unitsO_ne wx)
    obtain ⟨u', us', hu'⟩ := List.exists_cons_of_ne_nil (unitsO_ne wy)
    obtain rfl : u = u' := by rw [hu, hu'] at h'; exact (List.cons.inj h').1
    have m1 : u ∈ unitsO x := by rw [hu]; exact List.mem_cons_self ..
    have m2 : u ∈ unitsO y := by rw [hu']; exact List.mem_cons_self ..
    have e : unitsO x = unitsO y := by
      by_cases hx2 : x.k = 2
      · by_cases hy2 : y.k = 2
        · rcases unit_cases wx m1 with ⟨h1, _⟩ | ⟨h1, e1⟩ | ⟨h1, _⟩ | ⟨h1, _⟩
          any_goals omega
          rcases unit_cases wy m2 with ⟨h2, _⟩ | ⟨h2, e2⟩ | ⟨h2, _⟩ | ⟨h2, _⟩
          any_goals omega
          unfold unitsO
          rw [if_pos (Or.inr hx2), if_pos (Or.inr hy2), cells2 hx2, cells2 hy2, ← e1, ← e2]
        · exfalso
          have := run_in wy hy2 m2 m2
          rcases unit_cases wx m1 with ⟨h1, _⟩ | ⟨h1, e1⟩ | ⟨h1, _⟩ | ⟨h1, _⟩
          any_goals omega
          rw [e1] at this
          have h0 : (0 : Int) ≤ -1 := this.1
          omega
      · by_cases hy2 : y.k = 2
        · exfalso
          have := run_in wx hx2 m1 m1
          rcases unit_cases wy m2 with ⟨h1, _⟩ | ⟨h1, e1⟩ | ⟨h1, _⟩ | ⟨h1, _⟩
          any_goals omega
          rw [e1] at this
          have h0 : (0 : Int) ≤ -1 := this.1
          omega
        · rw [← run wx (fun o ho => hE o (List.mem_cons_of_mem _ ho)) cE hx2 u m1, h', run wy (fun o ho => hF o (List.mem_cons_of_mem _ ho)) cF hy2 u m2]
    rw [unitsO_inj wx wy e]
    rw [e] at h'
    rw [units_inj (fun o ho => hE o (List.mem_cons_of_mem _ ho)) (fun o ho => hF o (List.mem_cons_of_mem _ ho)) (chain_tail cE) (chain_tail cF) (List.append_cancel_left h')]
end Go.Proofs.YthfpmhnnjjikcaaGreatDoor

/- The canonical list of operations: its units are theirs, each gap's inserts ahead of its deletes. -/
namespace Go.Proofs.YthfpmhnnjjikcaaGreatDoor
open Go Go.RowKit Go.Lib
set_option linter.unusedVariables false

/-- Units, each gap's inserts ahead of its deletes (I, d: what the gap at hand has so far). -/
def nrm (I : List U6) (d : Nat) : List U6 → List U6
  | [] => I ++ List.replicate d .del
  | .keep A :: r => I ++ (List.replicate d .del ++ .keep A :: nrm [] 0 r)
  | .del :: r => nrm I (d + 1) r
  | .ins c :: r => nrm (I ++ [.ins c]) d r
theorem nrm_ins (l : List C5) : ∀ (I : List U6) (d : Nat) (r : List U6), nrm I d (l.map .ins ++ r) = nrm (I ++ l.map .ins) d r := by
  induction l with
  | nil => intro I d r; simp
  | cons c l ih =>
    intro I d r
    show nrm (I ++ [.ins c]) d (l.map .ins ++ r) = _
    rw [ih]; simp
theorem nrm_del (n : Nat) : ∀ (I : List U6) (d : Nat) (r : List U6), nrm I d (List.replicate n .del ++ r) = nrm I (d + n) r := by
  induction n with
  | zero => intro I d r; simp
  | succ n ih =>
    intro I d r
    rw [List.replicate_succ]
    show nrm I (d + 1) (List.replicate n .del ++ r) = _
    rw [ih, show d + 1 + n = d + (n + 1) by omega]
theorem nrm_keeps (A : List A2) : ∀ (n : Nat) (r : List U6), nrm [] 0 (List.replicate n (.keep A) ++ r) = List.replicate n (.keep A) ++ nrm [] 0 r
  | 0, r => by simp
  | n + 1, r => by
    rw [List.replicate_succ]
    show [] ++ (List.replicate 0 U6.del ++ .keep A :: nrm [] 0 (List.replicate n (.keep A) ++ r)) = _
    rw [nrm_keeps A n r]; rfl
theorem nrm_keep (A : List A2) (n : Nat) (hn : 1 ≤ n) (I : List U6) (d : Nat) (r : List U6) :
    nrm I d (List.replicate n (.keep A) ++ r) = I ++ (List.replicate d .del ++ (List.replicate n (.keep A) ++ nrm [] 0 r)) := by
  obtain ⟨m, rfl⟩ : ∃ m, n = m + 1 := ⟨n - 1, by omega⟩
  rw [List.replicate_succ]
  show I ++ (List.replicate d U6.del ++ .keep A :: nrm [] 0 (List.replicate m (.keep A) ++ r)) = _
  rw [nrm_keeps]; rfl
theorem nrm_pre (J I : List U6) : ∀ (r : List U6) (d : Nat), nrm (J ++ I) d r = J ++ nrm I d r
  | [], d => by show (J ++ I) ++ _ = _; rw [List.append_assoc]; rfl
  | .keep A :: r, d => by show (J ++ I) ++ _ = _; rw [List.append_assoc]; rfl
  | .del :: r, d => nrm_pre J I r (d + 1)
  | .ins c :: r, d => by
    show nrm (J ++ I ++ [.ins c]) d r = J ++ nrm (I ++ [.ins c]) d r
    rw [List.append_assoc]
    exact nrm_pre J (I ++ [.ins c]) r d
theorem unitsO_1 {o : Op5} (h : o.k = 1 ∨ o.k = 2) : unitsO o = (cellsOf o).map .ins := by unfold unitsO; rw [if_pos h]
theorem unitsO_3 {o : Op5} (h : o.k = 3) : unitsO o = List.replicate o.c.toNat (.keep o.A) := by unfold unitsO; rw [if_neg (by omega), if_pos h]
theorem unitsO_4 {o : Op5} (h : o.k = 4) : unitsO o = List.replicate o.c.toNat .del := by unfold unitsO; rw [if_neg (by omega), if_neg (by omega)]
theorem Wel.count {o : Op5} (h : Wel o) (hk : o.k = 3 ∨ o.k = 4) : 1 ≤ o.c := by
  rcases h with ⟨_, h⟩ | ⟨_, _, _, h, _⟩ | ⟨_, _, _, h, _⟩
  · omega
  · exact h
  · exact h

/-- Two operations as one. -/
def jnO (x o : Op5) : Op5 := ⟨x.k, x.t ++ o.t, x.v, x.c + o.c, x.A⟩
/-- An operation put behind others, joined with the last one where that may be. -/
def pushL (out : List Op5) (o : Op5) : List Op5 :=
  match out.getLast? with
  | none => [o]
  | some x => if x.k ≠ o.k ∨ o.k = 2 ∨ x.A ≠ o.A then out ++ [o] else out.dropLast ++ [jnO x o]
theorem push_nil (o : Op5) : pushL [] o = [o] := rfl
theorem push_apart {F : List Op5} {x o : Op5} (h : x.k ≠ o.k ∨ o.k = 2 ∨ x.A ≠ o.A) : pushL (F ++ [x]) o = F ++ [x] ++ [o] := by
  unfold pushL
  rw [List.getLast?_concat]
  exact if_pos h
theorem push_join {F : List Op5} {x o : Op5} (h : ¬ (x.k ≠ o.k ∨ o.k = 2 ∨ x.A ≠ o.A)) : pushL (F ++ [x]) o = F ++ [jnO x o] := by
  unfold pushL
  rw [List.getLast?_concat, List.dropLast_concat]
  exact if_neg h
theorem join_wel {x o : Op5} (hx : Wel x) (ho : Wel o) (hk : x.k = o.k) (h2 : o.k ≠ 2) (hA : x.A = o.A) : Wel (jnO x o) ∧ unitsO (jnO x o) = unitsO x ++ unitsO o := by
  have e0 : (⟨#[]⟩ : ByteArray) ++ ⟨#[]⟩ = ⟨#[]⟩ := rfl
  rcases hx with ⟨i1, k1⟩ | ⟨k1, a1, a2, a3, a4⟩ | ⟨k1, a1, a2, a3, a4⟩
  · have k1 : x.k = 1 := by omega
    obtain ⟨i2, _⟩ := ho.resolve_right (by rintro (h | h) <;> omega)
    have hs : (x.t ++ o.t).size = x.t.size + o.t.size := ByteArray.size_append
    have hc := scs_cat (a := x.t.data.toList) (b := o.t.data.toList) (by rw [i1.utf, size_toList]) (by rw [i2.utf, size_toList])
    refine ⟨Or.inl ⟨⟨Or.inl ⟨k1, (i1.kind.resolve_right (by omega)).2⟩, size_isEmp ?_, ?_, ?_, i1.val, i1.set⟩, Or.inl k1⟩, ?_⟩
    · have := isEmp_size i1.full
      show 0 < (x.t ++ o.t).size
      omega
    · show x.c + o.c = 0
      rw [i1.count, i2.count]; rfl
    · show brk (x.t ++ o.t).data.toList = (x.t ++ o.t).size
      rw [cat_list, hc.2, List.length_append, size_toList, size_toList, hs]
    · rw [unitsO_1 (show (jnO x o).k = 1 ∨ (jnO x o).k = 2 from Or.inl k1), unitsO_1 (Or.inl k1), unitsO_1 (Or.inl (by omega))]
      unfold cellsOf
      rw [if_pos (show (jnO x o).k = 1 from k1), if_pos k1, if_pos (show o.k = 1 by omega), ← hA]
      show (mkC x.A (scs (x.t ++ o.t).data.toList)).map U6.ins = _
      rw [cat_list, hc.1]
      simp [mkC]
  · obtain ⟨_, b1, b2, b3, b4⟩ := (ho.resolve_left (fun h => by omega)).resolve_right (fun h => by omega)
    refine ⟨Or.inr (Or.inl ⟨k1, by show x.t ++ o.t = _; rw [a1, b1, e0], a2, by show 1 ≤ x.c + o.c; omega, a4⟩), ?_⟩
    rw [unitsO_3 (show (jnO x o).k = 3 from k1), unitsO_3 k1, unitsO_3 (by omega), ← hA]
    show List.replicate (x.c + o.c).toNat (U6.keep x.A) = _
    rw [show (x.c + o.c).toNat = x.c.toNat + o.c.toNat by omega, List.replicate_append_replicate.symm]
  · obtain ⟨_, b1, b2, b3, b4⟩ := (ho.resolve_left (fun h => by omega)).resolve_left (fun h => by omega)
    refine ⟨Or.inr (Or.inr ⟨k1, by show x.t ++ o.t = _; rw [a1, b1, e0], a2, by show 1 ≤ x.c + o.c; omega, a4⟩), ?_⟩
    rw [unitsO_4 (show (jnO x o).k = 4 from k1), unitsO_4 k1, unitsO_4 (by omega)]
    show List.replicate (x.c + o.c).toNat U6.del = _
    rw [show (x.c + o.c).toNat = x.c.toNat + o.c.toNat by omega, List.replicate_append_replicate.symm]
theorem chain_snoc : ∀ (E : List Op5) (x o : Op5), chainB (E ++ [x] ++ [o]) = (chainB (E ++ [x]) && apartB x o)
  | [], x, o => by simp [chainB]
  | [y], x, o => by simp [chainB]
  | y :: z :: r, x, o => by
    have := chain_snoc (z :: r) x o
    simp only [List.cons_append, chainB] at this ⊢
    rw [this, Bool.and_assoc]
theorem chain_last : ∀ (E : List Op5) {x y : Op5}, x.k = y.k → x.A = y.A → chainB (E ++ [x]) = chainB (E ++ [y])
  | [], x, y, _, _ => rfl
  | [z], x, y, hk, hA => by simp [chainB, apartB, hk, hA]
  | z :: u :: r, x, y, hk, hA => by
    have := chain_last (u :: r) hk hA
    simp only [List.cons_append, chainB] at this ⊢
    rw [this]
/-- A list that no two neighbours of which might be one, well formed; the kind of its last one. -/
structure Chn (E : List Op5) (P : Int → Prop) : Prop where
  wel : ∀ o ∈ E, Wel o
  chain : chainB E = true
  last : ∀ F x, E = F ++ [x] → P x.k
theorem wel_snoc {F : List Op5} {x : Op5} : (∀ o ∈ F ++ [x], Wel o) ↔ (∀ o ∈ F, Wel o) ∧ Wel x := by
  constructor
  · intro h; exact ⟨fun o ho => h o (List.mem_append_left _ ho), h x (List.mem_append_right _ (List.mem_singleton.2 rfl))⟩
  · rintro ⟨h1, h2⟩ o ho
    rcases List.mem_append.1 ho with h | h
    · exact h1 o h
    · rw [List.mem_singleton.1 h]; exact h2
theorem last_snoc {P : Int → Prop} {G : List Op5} {z : Op5} (h : P z.k) : ∀ F x, G ++ [z] = F ++ [x] → P x.k := fun F x e => by
  have := List.append_inj_right' e rfl
  rw [← List.cons.inj this |>.1]; exact h
theorem push_chn {out : List Op5} {o : Op5} {P : Int → Prop} (h : Chn out P) (ho : Wel o) (hP : ∀ k, P k → k = 4 → o.k = 3 ∨ o.k = 4) :
    Chn (pushL out o) (fun k => k = o.k) ∧ units (pushL out o) = units out ++ unitsO o := by
  rcases List.eq_nil_or_concat out with rfl | ⟨F, x, rfl⟩
  · rw [push_nil]
    exact ⟨⟨fun y hy => by rw [List.mem_singleton.1 hy]; exact ho, rfl, last_snoc (P := fun k => k = o.k) (G := []) (z := o) rfl⟩, by rw [units_one]; rfl⟩
  · rw [List.concat_eq_append] at h ⊢
    obtain ⟨w1, w2⟩ := wel_snoc.1 h.wel
    have hl := h.last F x rfl
    by_cases hj : x.k ≠ o.k ∨ o.k = 2 ∨ x.A ≠ o.A
    · rw [push_apart hj]
      refine ⟨⟨wel_snoc.2 ⟨h.wel, ho⟩, ?_, last_snoc (P := fun k => k = o.k) (z := o) rfl⟩, by rw [units_append (F ++ [x]), units_one]⟩
      rw [chain_snoc, h.chain]
      unfold apartB
      by_cases h4 : x.k = 4
      · rw [if_pos h4]
        rcases hP _ hl h4 with h3 | h3
        · simp [h3]
        · exfalso
          rcases hj with hj | hj | hj
          · omega
          · omega
          · obtain ⟨_, _, _, _, a⟩ := (w2.resolve_left (fun h => by omega)).resolve_left (fun h => by omega)
            obtain ⟨_, _, _, _, b⟩ := (ho.resolve_left (fun h => by omega)).resolve_left (fun h => by omega)
            exact hj (by rw [a, b])
      · rw [if_neg h4]
        by_cases h5 : x.k ≠ o.k ∨ x.k = 2
        · rw [if_pos h5]; rfl
        · rw [if_neg h5]
          have : x.A ≠ o.A := by
            rcases hj with hj | hj | hj
            · exact absurd (Or.inl hj) h5
            · exact absurd (Or.inr (by omega)) h5
            · exact hj
          simp [this]
    · rw [push_join hj]
      have hk : x.k = o.k := Decidable.byContradiction fun e => hj (Or.inl e)
      have h2 : o.k ≠ 2 := fun e => hj (Or.inr (Or.inl e))
      have hA : x.A = o.A := Decidable.byContradiction fun e => hj (Or.inr (Or.inr e))
      obtain ⟨j1, j2⟩ := join_wel w2 ho hk h2 hA
      refine ⟨⟨wel_snoc.2 ⟨w1, j1⟩, ?_, last_snoc (P := fun k => k = o.k) (z := jnO x o) (show (jnO x o).k = o.k from hk)⟩, ?_⟩
      · rw [chain_last F (x := jnO x o) (y := x) rfl rfl]; exact h.chain
      · rw [units_append, units_one, j2, units_append, units_one, List.append_assoc]

/-- A delete. -/
def delO (n : Int) : Op5 := ⟨4, ⟨#[]⟩, z0, n, []⟩
theorem delO_wel {n : Int} (h : 1 ≤ n) : Wel (delO n) := Or.inr (Or.inr ⟨rfl, rfl, rfl, h, rfl⟩)
/-- What a gap has, put behind. -/
def flushL (out gap : List Op5) (g : Int) : List Op5 := if 0 < g then pushL (gap.foldl pushL out) (delO g) else gap.foldl pushL out
/-- One operation gathered: what is whole, the gap's inserts, how many cells go there. -/
def stepC (s : List Op5 × List Op5 × Int) (o : Op5) : List Op5 × List Op5 × Int :=
  if o.k = 1 ∨ o.k = 2 then (s.1, s.2.1 ++ [o], s.2.2) else if o.k = 4 then (s.1, s.2.1, s.2.2 + o.c) else (pushL (flushL s.1 s.2.1 s.2.2) o, [], 0)
def runC (E : List Op5) : List Op5 × List Op5 × Int := E.foldl stepC ([], [], 0)
/-- Without a plain retain at the end. -/
def trimL (out : List Op5) : List Op5 := match out.getLast? with | some o => if plainR o then out.dropLast else out | none => out
/-- The canonical list of operations. -/
def canonL (E : List Op5) : List Op5 := trimL (flushL (runC E).1 (runC E).2.1 (runC E).2.2)
theorem gap_chn : ∀ {gap out : List Op5}, Chn out (fun k => k ≠ 4) → (∀ o ∈ gap, Wel o ∧ (o.k = 1 ∨ o.k = 2)) →
    Chn (gap.foldl pushL out) (fun k => k ≠ 4) ∧ units (gap.foldl pushL out) = units out ++ units gap
  | [], out, h, _ => ⟨h, by show _ = _ ++ []; rw [List.append_nil]; rfl⟩
  | o :: r, out, h, hg => by
    obtain ⟨ho, hk⟩ := hg o (List.mem_cons_self ..)
    obtain ⟨p1, p2⟩ := push_chn h ho (fun k h4 e => absurd e h4)
    have p1' : Chn (pushL out o) (fun k => k ≠ 4) := ⟨p1.wel, p1.chain, fun F x e => by have := p1.last F x e; omega⟩
    obtain ⟨q1, q2⟩ := gap_chn p1' (fun x hx => hg x (List.mem_cons_of_mem _ hx))
    refine ⟨q1, ?_⟩
    show units (r.foldl pushL (pushL out o)) = _
    rw [q2, p2, List.append_assoc]; rfl
theorem flush_chn {out gap : List Op5} {g : Int} (h : Chn out (fun k => k = 3)) (hg : ∀ o ∈ gap, Wel o ∧ (o.k = 1 ∨ o.k = 2)) :
    Chn (flushL out gap g) (fun _ => True) ∧ units (flushL out gap g) = units out ++ (units gap ++ List.replicate g.toNat .del) := by
  obtain ⟨p1, p2⟩ := gap_chn (⟨h.wel, h.chain, fun F x e => by have := h.last F x e; omega⟩ : Chn out (fun k => k ≠ 4)) hg
  unfold flushL
  split
  · rename_i h0
    obtain ⟨q1, q2⟩ := push_chn p1 (delO_wel h0) (fun k h4 e => absurd e h4)
    refine ⟨⟨q1.wel, q1.chain, fun _ _ _ => trivial⟩, ?_⟩
    rw [q2, p2, List.append_assoc, unitsO_4 (show (delO g).k = 4 from rfl)]; rfl
  · rename_i h0
    refine ⟨⟨p1.wel, p1.chain, fun _ _ _ => trivial⟩, ?_⟩
    rw [p2, show g.toNat = 0 by omega]
    simp
/-- What is so between two operations. -/
structure Run (E : List Op5) (s : List Op5 × List Op5 × Int) : Prop where
  out : Chn s.1 (fun k => k = 3)
  gap : ∀ o ∈ s.2.1, Wel o ∧ (o.k = 1 ∨ o.k = 2)
  gone : 0 ≤ s.2.2
  same : ∀ r, nrm [] 0 (units E ++ r) = units s.1 ++ nrm (units s.2.1) s.2.2.toNat r
theorem run_step {E : List Op5} {s : List Op5 × List Op5 × Int} {o : Op5} (h : Run E s) (ho : Wel o) : Run (E ++ [o]) (stepC s o) := by
  have hs : ∀ r, nrm [] 0 (units (E ++ [o]) ++ r) = units s.1 ++ nrm (units s.2.1) s.2.2.toNat (unitsO o ++ r) := fun r => by
    rw [units_append, units_one, List.append_assoc, h.same]
  unfold stepC
  rcases ho.kinds with hk | hk | hk | hk
  · rw [if_pos (Or.inl hk)]
    refine ⟨h.out, fun x hx => ?_, h.gone, fun r => ?_⟩
    · rcases List.mem_append.1 hx with hx | hx
      · exact h.gap x hx
      · rw [List.mem_singleton.1 hx]; exact ⟨ho, Or.inl hk⟩
    · rw [hs, unitsO_1 (Or.inl hk), nrm_ins, units_append, units_one, unitsO_1 (Or.inl hk)]
  · rw [if_pos (Or.inr hk)]
    refine ⟨h.out, fun x hx => ?_, h.gone, fun r => ?_⟩
    · rcases List.mem_append.1 hx with hx | hx
      · exact h.gap x hx
      · rw [List.mem_singleton.1 hx]; exact ⟨ho, Or.inr hk⟩
    · rw [hs, unitsO_1 (Or.inr hk), nrm_ins, units_append, units_one, unitsO_1 (Or.inr hk)]
  · rw [if_neg (by omega), if_neg (by omega)]
    obtain ⟨f1, f2⟩ := flush_chn (g := s.2.2) h.out h.gap
    obtain ⟨p1, p2⟩ := push_chn f1 ho (fun k _ _ => Or.inl hk)
    refine ⟨⟨p1.wel, p1.chain, fun F x e => by have := p1.last F x e; omega⟩, fun x hx => (by cases hx), Int.le_refl 0, fun r => ?_⟩
    have hc := ho.count (Or.inl hk)
    rw [hs, unitsO_3 hk, nrm_keep _ _ (by omega)]
    show _ = units (pushL _ o) ++ nrm [] 0 r
    rw [p2, f2, unitsO_3 hk]
    simp only [List.append_assoc]
  · rw [if_neg (by omega), if_pos hk]
    have hc := ho.count (Or.inr hk)
    refine ⟨h.out, h.gap, ?_, fun r => ?_⟩
    · have := h.gone
      show 0 ≤ s.2.2 + o.c
      omega
    · have := h.gone
      rw [hs, unitsO_4 hk, nrm_del]
      show _ = units s.1 ++ nrm (units s.2.1) (s.2.2 + o.c).toNat r
      rw [show (s.2.2 + o.c).toNat = s.2.2.toNat + o.c.toNat by omega]
theorem run_all : ∀ (F E : List Op5) (s : List Op5 × List Op5 × Int), Run E s → (∀ o ∈ F, Wel o) → Run (E ++ F) (F.foldl stepC s)
  | [], E, s, h, _ => by rw [List.append_nil]; exact h
  | o :: r, E, s, h, hF => by
    have := run_all r (E ++ [o]) (stepC s o) (run_step h (hF o (List.mem_cons_self ..))) (fun x hx => hF x (List.mem_cons_of_mem _ hx))
    rw [List.append_assoc] at this
    exact this
theorem run_of {E : List Op5} (h : ∀ o ∈ E, Wel o) : Run E (runC E) := by
  have := run_all E [] ([], [], 0) ⟨⟨fun o ho => (by cases ho), rfl, fun F x e => (by simp at e)⟩, fun o ho => (by cases ho), Int.le_refl 0, fun r => rfl⟩ h
  rw [List.nil_append] at this
  exact this

/-- Is a unit kept as it is? -/
def plainU : U6 → Bool
  | .keep A => A.isEmpty
  | _ => false
/-- Units without those at the end that are kept as they are. -/
def stripU (U : List U6) : List U6 := (U.reverse.dropWhile plainU).reverse
theorem strip_end {U : List U6} {u : U6} (h : plainU u = false) : stripU (U ++ [u]) = U ++ [u] := by
  unfold stripU
  rw [List.reverse_append]
  show ((u :: U.reverse).dropWhile plainU).reverse = _
  rw [List.dropWhile_cons, h]
  simp
theorem strip_plain {u : U6} (h : plainU u = true) : ∀ (n : Nat) (U : List U6), stripU (U ++ List.replicate n u) = stripU U
  | 0, U => by simp
  | n + 1, U => by
    rw [List.replicate_succ', ← List.append_assoc]
    unfold stripU
    rw [List.reverse_append]
    show ((u :: (U ++ List.replicate n u).reverse).dropWhile plainU).reverse = _
    rw [List.dropWhile_cons, h]
    exact strip_plain h n U
theorem units_last {x : Op5} (h : Wel x) (hp : plainR x = false) : ∃ us u, unitsO x = us ++ [u] ∧ plainU u = false := by
  rcases List.eq_nil_or_concat (unitsO x) with he | ⟨us, u, he⟩
  · exact absurd he (unitsO_ne h)
  · rw [List.concat_eq_append] at he
    refine ⟨us, u, he, ?_⟩
    have hu : u ∈ unitsO x := by rw [he]; simp
    rcases unit_cases h hu with ⟨h1, r, rfl⟩ | ⟨h1, rfl⟩ | ⟨h1, rfl⟩ | ⟨h1, rfl⟩
    · rfl
    · rfl
    · unfold plainR at hp
      rw [h1] at hp
      simpa [plainU] using hp
    · rfl
theorem strip_id {F : List Op5} {x : Op5} (h : Wel x) (hp : plainR x = false) : stripU (units (F ++ [x])) = units (F ++ [x]) := by
  obtain ⟨us, u, h1, h2⟩ := units_last h hp
  rw [units_append, units_one, h1, ← List.append_assoc]
  exact strip_end h2
theorem lastP_snoc (F : List Op5) (x : Op5) : lastP (F ++ [x]) = !plainR x := by unfold lastP; rw [List.getLast?_concat]
theorem strip_can {E : List Op5} (hw : ∀ o ∈ E, Wel o) (hl : lastP E = true) : stripU (units E) = units E := by
  rcases List.eq_nil_or_concat E with rfl | ⟨F, x, rfl⟩
  · rfl
  · rw [List.concat_eq_append] at *
    rw [lastP_snoc] at hl
    exact strip_id (wel_snoc.1 hw).2 (by simpa using hl)
theorem chain_front {F : List Op5} {x : Op5} (h : chainB (F ++ [x]) = true) : chainB F = true := by
  rcases List.eq_nil_or_concat F with rfl | ⟨G, y, rfl⟩
  · rfl
  · rw [List.concat_eq_append] at *
    rw [chain_snoc, Bool.and_eq_true] at h
    exact h.1
theorem trim_chn {E : List Op5} {P : Int → Prop} (h : Chn E P) : (∀ o ∈ trimL E, Wel o) ∧ chainB (trimL E) = true ∧ lastP (trimL E) = true ∧ units (trimL E) = stripU (units E) := by
  rcases List.eq_nil_or_concat E with rfl | ⟨F, x, rfl⟩
  · exact ⟨h.wel, h.chain, rfl, rfl⟩
  · rw [List.concat_eq_append] at *
    obtain ⟨w1, w2⟩ := wel_snoc.1 h.wel
    unfold trimL
    rw [List.getLast?_concat]
    simp only [List.dropLast_concat]
    cases hp : plainR x with
    | false =>
      simp only [Bool.false_eq_true, if_false]
      exact ⟨h.wel, h.chain, by rw [lastP_snoc, hp]; rfl, (strip_id w2 hp).symm⟩
    | true =>
      simp only [if_true]
      have hx : x.k = 3 ∧ x.A = [] := by
        unfold plainR at hp
        simpa using hp
      have hl : lastP F = true := by
        rcases List.eq_nil_or_concat F with rfl | ⟨G, y, rfl⟩
        · rfl
        · rw [List.concat_eq_append] at *
          have := h.chain
          rw [chain_snoc, Bool.and_eq_true] at this
          have ha := this.2
          rw [lastP_snoc]
          cases hq : plainR y with
          | false => rfl
          | true =>
            exfalso
            have hy : y.k = 3 ∧ y.A = [] := by unfold plainR at hq; simpa using hq
            unfold apartB at ha
            rw [if_neg (by omega), if_neg (by omega), hy.2, hx.2] at ha
            simp at ha
      refine ⟨w1, chain_front h.chain, hl, ?_⟩
      rw [units_append, units_one, unitsO_3 hx.1, hx.2, strip_plain rfl]
      exact (strip_can w1 hl).symm
/-- **What the canonical list is: its neighbours are apart, no plain retain ends it, and its units are those of the operations, put in order.** -/
theorem canon_spec {E : List Op5} (h : ∀ o ∈ E, Wel o) : (∀ o ∈ canonL E, Wel o) ∧ chainB (canonL E) = true ∧ lastP (canonL E) = true ∧ units (canonL E) = stripU (nrm [] 0 (units E)) := by
  have r := run_of h
  obtain ⟨f1, f2⟩ := flush_chn (g := (runC E).2.2) r.out r.gap
  obtain ⟨t1, t2, t3, t4⟩ := trim_chn f1
  refine ⟨t1, t2, t3, ?_⟩
  have e := r.same []
  rw [List.append_nil] at e
  show units (trimL _) = _
  rw [t4, f2, e]; rfl
theorem canon_unique {E F : List Op5} (h : ∀ o ∈ E, Wel o) (hF : ∀ o ∈ F, Wel o) (hc : chainB F = true) (e : units F = stripU (nrm [] 0 (units E))) : canonL E = F := by
  obtain ⟨t1, t2, t3, t4⟩ := canon_spec h
  exact units_inj t1 hF t2 hc (by rw [t4, e])
theorem nrm_chain : ∀ {F : List Op5} (I : List U6), (∀ o ∈ F, Wel o) → chainB F = true → nrm I 0 (units F) = I ++ units F
  | [], I, _, _ => by show I ++ [] = _; rfl
  | o :: r, I, hF, hc => by
    have ho := hF o (List.mem_cons_self ..)
    have ih := fun J => nrm_chain (F := r) J (fun x hx => hF x (List.mem_cons_of_mem _ hx)) (chain_tail hc)
    show nrm I 0 (unitsO o ++ units r) = I ++ (unitsO o ++ units r)
    rcases ho.kinds with hk | hk | hk | hk
    · rw [unitsO_1 (Or.inl hk), nrm_ins, ih, List.append_assoc]
    · rw [unitsO_1 (Or.inr hk), nrm_ins, ih, List.append_assoc]
    · have := ho.count (Or.inl hk)
      rw [unitsO_3 hk, nrm_keep _ _ (by omega), ih]
      simp
    · rw [unitsO_4 hk, nrm_del]
      cases r with
      | nil => show I ++ List.replicate (0 + o.c.toNat) U6.del = I ++ (_ ++ []); rw [Nat.zero_add, List.append_nil]
      | cons y s =>
        have hy := hF y (by simp)
        rw [chainB, Bool.and_eq_true] at hc
        have ha := hc.1
        unfold apartB at ha
        rw [if_pos hk] at ha
        have hk3 : y.k = 3 := by simpa using ha
        have := hy.count (Or.inl hk3)
        have ih2 := nrm_chain (F := s) [] (fun x hx => hF x (by simp [hx])) (chain_tail hc.2)
        show nrm I _ (unitsO y ++ units s) = _ ++ (_ ++ (unitsO y ++ units s))
        rw [unitsO_3 hk3, nrm_keep _ _ (by omega), ih2, Nat.zero_add]
        simp
/-- A canonical list is its own. -/
theorem canon_self {F : List Op5} (hF : ∀ o ∈ F, Wel o) (hc : chainB F = true) (hl : lastP F = true) : canonL F = F :=
  canon_unique hF hF hc (by rw [nrm_chain [] hF hc, List.nil_append, strip_can hF hl])
end Go.Proofs.YthfpmhnnjjikcaaGreatDoor

/- Deltas unit by unit: their edits of cells; their lengths. -/
namespace Go.Proofs.YthfpmhnnjjikcaaGreatDoor
open Go Go.RowKit Go.Lib
set_option linter.unusedVariables false

/-- A cell with a patch. -/
def patC (c : C5) (A : List A2) : C5 := (c.1, c.2.1, c.2.2.1, jn (chC false) c.2.2.2 A)
theorem patC_nil {c : C5} (h : listE false none c.2.2.2 = 0) : patC c [] = c := by
  obtain ⟨a, b, d, e⟩ := c
  show (a, b, d, jn (chC false) e []) = _
  rw [comp_nil h]
/-- Units done to cells: what comes of the cells that they reach, and those behind. -/
def runU : List U6 → List C5 → Option (List C5 × List C5)
  | [], cs => some ([], cs)
  | .ins c :: u, cs => (runU u cs).map fun x => (c :: x.1, x.2)
  | .keep A :: u, c :: cs => (runU u cs).map fun x => (patC c A :: x.1, x.2)
  | .keep _ :: _, [] => none
  | .del :: u, _ :: cs => runU u cs
  | .del :: _, [] => none
/-- Cells, edited; none: there are too few. -/
def edit (U : List U6) (cs : List C5) : Option (List C5) := (runU U cs).map fun x => x.1 ++ x.2
theorem run_append : ∀ (U V : List U6) (cs : List C5), runU (U ++ V) cs = (runU U cs).bind fun x => (runU V x.2).map fun y => (x.1 ++ y.1, y.2)
  | [], V, cs => by
    show runU V cs = (runU V cs).map fun y => ([] ++ y.1, y.2)
    simp
  | .ins c :: u, V, cs => by
    show (runU (u ++ V) cs).map _ = ((runU u cs).map _).bind _
    rw [run_append u V cs]
    cases runU u cs with
    | none => rfl
    | some x => simp [Option.map_map, Function.comp_def]
  | .keep A :: u, V, [] => rfl
  | .keep A :: u, V, c :: cs => by
    show (runU (u ++ V) cs).map _ = ((runU u cs).map _).bind _
    rw [run_append u V cs]
    cases runU u cs with
    | none => rfl
    | some x => simp [Option.map_map, Function.comp_def]
  | .del :: u, V, [] => rfl
  | .del :: u, V, c :: cs => run_append u V cs
theorem run_ins : ∀ (l cs : List C5), runU (l.map U6.ins) cs = some (l, cs)
  | [], cs => rfl
  | c :: l, cs => by
    show (runU (l.map U6.ins) cs).map _ = _
    rw [run_ins l cs]; rfl
theorem run_dels : ∀ (n : Nat) (cs : List C5), runU (List.replicate n .del) cs = if n ≤ cs.length then some ([], cs.drop n) else none
  | 0, cs => by rw [if_pos (Nat.zero_le _)]; rfl
  | n + 1, [] => by rw [if_neg (by simp)]; rfl
  | n + 1, c :: cs => by
    rw [List.replicate_succ]
    show runU (List.replicate n .del) cs = _
    rw [run_dels n cs]
    simp
theorem run_congr {V W : List U6} (h : ∀ cs, runU V cs = runU W cs) (U : List U6) (cs : List C5) : runU (U ++ V) cs = runU (U ++ W) cs := by
  rw [run_append, run_append]
  congr 1
  funext x
  rw [h]
/-- What comes and what goes in one gap may be told in any order. -/
theorem run_swap (l : List C5) (n : Nat) (V : List U6) (cs : List C5) : runU (List.replicate n .del ++ (l.map .ins ++ V)) cs = runU (l.map .ins ++ (List.replicate n .del ++ V)) cs := by
  rw [run_append, run_append, run_ins, run_dels]
  simp only [Option.bind_some]
  rw [run_append, run_dels]
  split
  · simp only [Option.bind_some]
    rw [run_append, run_ins]
    simp [Option.map_map, Function.comp_def]
  · rfl
theorem run_nrm : ∀ (U : List U6) (l : List C5) (d : Nat) (cs : List C5), runU (nrm (l.map .ins) d U) cs = runU (l.map .ins ++ (List.replicate d .del ++ U)) cs
  | [], l, d, cs => by rw [nrm, List.append_nil]
  | .keep A :: r, l, d, cs => by
    rw [nrm]
    refine run_congr (fun cs => run_congr (fun cs => ?_) _ cs) _ cs
    have := fun cs => run_nrm r [] 0 cs
    exact run_congr (V := nrm [] 0 r) (W := r) this [U6.keep A] cs
  | .del :: r, l, d, cs => by
    rw [nrm, run_nrm r l (d + 1) cs, List.replicate_succ', List.append_assoc]; rfl
  | .ins c :: r, l, d, cs => by
    rw [nrm, show l.map U6.ins ++ [.ins c] = (l ++ [c]).map U6.ins by simp, run_nrm r (l ++ [c]) d cs]
    rw [List.map_append, List.append_assoc]
    refine run_congr (fun cs => ?_) _ cs
    exact (run_swap [c] d r cs).symm
theorem run_rest : ∀ (U : List U6) (cs : List C5) (o r : List C5), runU U cs = some (o, r) → ∀ c ∈ r, c ∈ cs
  | [], cs, o, r, h => by
    obtain ⟨-, rfl⟩ := Prod.mk.inj (Option.some.inj h)
    exact fun c hc => hc
  | .ins c :: u, cs, o, r, h => by
    obtain ⟨x, hx, he⟩ := Option.map_eq_some_iff.1 (show (runU u cs).map _ = _ from h)
    obtain ⟨-, rfl⟩ := Prod.mk.inj he
    exact run_rest u cs x.1 x.2 hx
  | .keep A :: u, [], o, r, h => by cases h
  | .keep A :: u, c :: cs, o, r, h => by
    obtain ⟨x, hx, he⟩ := Option.map_eq_some_iff.1 (show (runU u cs).map _ = _ from h)
    obtain ⟨-, rfl⟩ := Prod.mk.inj he
    exact fun c hc => List.mem_cons_of_mem _ (run_rest u cs x.1 x.2 hx c hc)
  | .del :: u, [], o, r, h => by cases h
  | .del :: u, c :: cs, o, r, h => fun c hc => List.mem_cons_of_mem _ (run_rest u cs o r h c hc)
/-- Cells whose attributes are sets. -/
def SetC (cs : List C5) : Prop := ∀ c ∈ cs, listE false none c.2.2.2 = 0
theorem edit_snoc {U : List U6} {u : U6} {cs xs : List C5} (hs : SetC cs) (hp : plainU u = true) (h : edit (U ++ [u]) cs = some xs) : edit U cs = some xs := by
  cases u with
  | ins c => cases hp
  | del => cases hp
  | keep A =>
    obtain rfl : A = [] := by simpa [plainU] using hp
    unfold edit at h ⊢
    rw [run_append] at h
    cases hU : runU U cs with
    | none => rw [hU] at h; cases h
    | some x =>
      rw [hU] at h
      simp only [Option.bind_some] at h
      obtain ⟨o, r⟩ := x
      cases r with
      | nil => cases h
      | cons c r =>
        have hc := hs c (run_rest U cs o _ hU c (List.mem_cons_self ..))
        simp only [runU, Option.map_some, patC_nil hc, Option.some.injEq] at h ⊢
        rw [← h]; simp
theorem mem_tw {p : U6 → Bool} {u : U6} : ∀ {l : List U6}, u ∈ l.takeWhile p → p u = true
  | [], h => by cases h
  | x :: l, h => by
    rw [List.takeWhile_cons] at h
    split at h
    · rename_i hx
      rcases List.mem_cons.1 h with rfl | h
      · exact hx
      · exact mem_tw h
    · cases h
theorem strip_cut : ∀ U : List U6, ∃ V, U = stripU U ++ V ∧ ∀ u ∈ V, plainU u = true := fun U => by
  refine ⟨(U.reverse.takeWhile plainU).reverse, ?_, fun u hu => ?_⟩
  · unfold stripU
    rw [← List.reverse_append, List.takeWhile_append_dropWhile, List.reverse_reverse]
  · exact mem_tw (List.mem_reverse.1 hu)
theorem edit_strip {U : List U6} {cs xs : List C5} (hs : SetC cs) (h : edit U cs = some xs) : edit (stripU U) cs = some xs := by
  obtain ⟨V, h1, h2⟩ := strip_cut U
  have aux : ∀ (V W : List U6), (∀ u ∈ V, plainU u = true) → edit (W ++ V) cs = some xs → edit W cs = some xs := fun V => by
    induction V with
    | nil => intro W _ h; simpa using h
    | cons u V ih =>
      intro W hV h
      refine edit_snoc hs (hV u (List.mem_cons_self ..)) (ih (W ++ [u]) (fun v hv => hV v (List.mem_cons_of_mem _ hv)) (by rw [List.append_assoc]; exact h))
  exact aux V _ h2 (by rw [← h1]; exact h)
/-- **The canonical list does what the operations do.** -/
theorem edit_canon {E : List Op5} (hE : ∀ o ∈ E, Wel o) {cs xs : List C5} (hs : SetC cs) (h : edit (units E) cs = some xs) : edit (units (canonL E)) cs = some xs := by
  rw [(canon_spec hE).2.2.2]
  refine edit_strip hs ?_
  have := run_nrm (units E) [] 0 cs
  unfold edit at h ⊢
  rw [show nrm [] 0 (units E) = nrm (([] : List C5).map .ins) 0 (units E) from rfl, this]
  exact h

/-! Lengths. -/
def baseU (U : List U6) : Nat := U.countP fun u => match u with | .ins _ => false | _ => true
def resU (U : List U6) : Nat := U.countP fun u => match u with | .del => false | _ => true
def sumB (E : List Op5) : Int := (E.map baseO).sum
def sumR (E : List Op5) : Int := (E.map resO).sum
theorem len5_units {o : Op5} (h : Wel o) : len5 o = ((unitsO o).length : Int) := by
  unfold len5
  rcases h.kinds with hk | hk | hk | hk
  · rw [if_pos (Or.inl hk), unitsO_1 (Or.inl hk), List.length_map, cellsOf_len]
  · rw [if_pos (Or.inr hk), unitsO_1 (Or.inr hk), List.length_map, cellsOf_len]
  · have := h.count (Or.inl hk)
    rw [if_neg (by omega), unitsO_3 hk, List.length_replicate]; omega
  · have := h.count (Or.inr hk)
    rw [if_neg (by omega), unitsO_4 hk, List.length_replicate]; omega
theorem countP_all {p : U6 → Bool} {U : List U6} (h : ∀ u ∈ U, p u = true) : U.countP p = U.length := by
  rw [List.countP_eq_length]; exact h
theorem countP_none {p : U6 → Bool} {U : List U6} (h : ∀ u ∈ U, p u = false) : U.countP p = 0 := by
  rw [List.countP_eq_zero]; intro u hu; rw [h u hu]; simp
theorem base_units {o : Op5} (h : Wel o) : baseO o = (baseU (unitsO o) : Int) := by
  unfold baseO baseU
  rcases h.kinds with hk | hk | hk | hk
  · rw [if_neg (by omega), countP_none]; rfl
    intro u hu
    rcases unit_cases h hu with ⟨_, r, rfl⟩ | ⟨_, rfl⟩ | ⟨h2, _⟩ | ⟨h2, _⟩ <;> first | rfl | omega
  · rw [if_neg (by omega), countP_none]; rfl
    intro u hu
    rcases unit_cases h hu with ⟨_, r, rfl⟩ | ⟨_, rfl⟩ | ⟨h2, _⟩ | ⟨h2, _⟩ <;> first | rfl | omega
  · rw [if_pos (Or.inl hk), countP_all, len5_units h]
    intro u hu
    rcases unit_cases h hu with ⟨h2, _⟩ | ⟨h2, _⟩ | ⟨_, rfl⟩ | ⟨_, rfl⟩ <;> first | rfl | omega
  · rw [if_pos (Or.inr hk), countP_all, len5_units h]
    intro u hu
    rcases unit_cases h hu with ⟨h2, _⟩ | ⟨h2, _⟩ | ⟨_, rfl⟩ | ⟨_, rfl⟩ <;> first | rfl | omega
theorem res_units {o : Op5} (h : Wel o) : resO o = (resU (unitsO o) : Int) := by
  unfold resO resU
  rcases h.kinds with hk | hk | hk | hk
  · rw [if_neg (by omega), countP_all, len5_units h]
    intro u hu
    rcases unit_cases h hu with ⟨_, r, rfl⟩ | ⟨_, rfl⟩ | ⟨h2, _⟩ | ⟨h2, _⟩ <;> first | rfl | omega
  · rw [if_neg (by omega), countP_all, len5_units h]
    intro u hu
    rcases unit_cases h hu with ⟨_, r, rfl⟩ | ⟨_, rfl⟩ | ⟨h2, _⟩ | ⟨h2, _⟩ <;> first | rfl | omega
  · rw [if_neg (by omega), countP_all, len5_units h]
    intro u hu
    rcases unit_cases h hu with ⟨h2, _⟩ | ⟨h2, _⟩ | ⟨_, rfl⟩ | ⟨h2, rfl⟩ <;> first | rfl | omega
  · rw [if_pos hk, countP_none]; rfl
    intro u hu
    rcases unit_cases h hu with ⟨h2, _⟩ | ⟨h2, _⟩ | ⟨h2, rfl⟩ | ⟨_, rfl⟩ <;> first | rfl | omega
theorem sumB_units : ∀ {E : List Op5}, (∀ o ∈ E, Wel o) → sumB E = (baseU (units E) : Int)
  | [], _ => rfl
  | o :: r, h => by
    show baseO o + sumB r = ((unitsO o ++ units r).countP _ : Nat)
    rw [List.countP_append, base_units (h o (List.mem_cons_self ..)), sumB_units fun x hx => h x (List.mem_cons_of_mem _ hx)]
    simp [baseU]
theorem sumR_units : ∀ {E : List Op5}, (∀ o ∈ E, Wel o) → sumR E = (resU (units E) : Int)
  | [], _ => rfl
  | o :: r, h => by
    show resO o + sumR r = ((unitsO o ++ units r).countP _ : Nat)
    rw [List.countP_append, res_units (h o (List.mem_cons_self ..)), sumR_units fun x hx => h x (List.mem_cons_of_mem _ hx)]
    simp [resU]
theorem nrm_perm : ∀ (U I : List U6) (d : Nat), (nrm I d U).Perm (I ++ (List.replicate d .del ++ U))
  | [], I, d => by rw [nrm, List.append_nil]
  | .keep A :: r, I, d => by
    rw [nrm]
    refine List.Perm.append_left _ (List.Perm.append_left _ (List.Perm.cons _ ?_))
    exact nrm_perm r [] 0
  | .del :: r, I, d => by
    rw [nrm]
    refine (nrm_perm r I (d + 1)).trans ?_
    rw [List.replicate_succ', List.append_assoc]; exact List.Perm.refl _
  | .ins c :: r, I, d => by
    rw [nrm]
    refine (nrm_perm r (I ++ [.ins c]) d).trans ?_
    rw [List.append_assoc]
    exact List.Perm.append_left _ (show (U6.ins c :: (List.replicate d U6.del ++ r)).Perm (List.replicate d U6.del ++ U6.ins c :: r) from List.perm_middle.symm)
theorem strip_count (p : U6 → Bool) (U : List U6) : (stripU U).countP p ≤ U.countP p := by
  obtain ⟨V, h1, _⟩ := strip_cut U
  conv => rhs; rw [h1]
  rw [List.countP_append]
  omega
/-- The canonical list is no longer than the operations. -/
theorem canon_sums {E : List Op5} (h : ∀ o ∈ E, Wel o) : sumB (canonL E) ≤ sumB E ∧ sumR (canonL E) ≤ sumR E := by
  obtain ⟨t1, _, _, t4⟩ := canon_spec h
  rw [sumB_units t1, sumR_units t1, sumB_units h, sumR_units h, t4]
  have hp := nrm_perm (units E) [] 0
  have e1 : baseU (nrm [] 0 (units E)) = baseU (units E) := hp.countP_eq _
  have e2 : resU (nrm [] 0 (units E)) = resU (units E) := hp.countP_eq _
  have s1 : baseU (stripU (nrm [] 0 (units E))) ≤ _ := strip_count _ _
  have s2 : resU (stripU (nrm [] 0 (units E))) ≤ _ := strip_count _ _
  have s1 : baseU (stripU (nrm [] 0 (units E))) ≤ baseU (nrm [] 0 (units E)) := s1
  have s2 : resU (stripU (nrm [] 0 (units E))) ≤ resU (nrm [] 0 (units E)) := s2
  omega
theorem base_nn {o : Op5} (h : Wel o) : 0 ≤ baseO o := by rw [base_units h]; omega
theorem res_nn {o : Op5} (h : Wel o) : 0 ≤ resO o := by rw [res_units h]; omega
theorem sums_nn : ∀ {E : List Op5}, (∀ o ∈ E, Wel o) → 0 ≤ sumB E ∧ 0 ≤ sumR E := fun {E} h => by rw [sumB_units h, sumR_units h]; omega
theorem sumL_ok : ∀ {E : List Op5} {b r : Int}, (∀ o ∈ E, Wel o) → (b + sumB E ≤ 1099511627776 ∧ r + sumR E ≤ 1099511627776) → sumL b r E = (b + sumB E, r + sumR E, 0)
  | [], b, r, _, _ => by rw [sumL]; simp [sumB, sumR]
  | o :: E, b, r, h, hl => by
    have ho := h o (List.mem_cons_self ..)
    have hE : ∀ x ∈ E, Wel x := fun x hx => h x (List.mem_cons_of_mem _ hx)
    have n := sums_nn hE
    have e1 : sumB (o :: E) = baseO o + sumB E := rfl
    have e2 : sumR (o :: E) = resO o + sumR E := rfl
    rw [e1, e2] at hl ⊢
    rw [sumL, if_neg (by omega), sumL_ok hE (by omega)]
    congr 1
    · omega
    · congr 1; omega
theorem sumL_bad : ∀ {E : List Op5} {b r : Int}, (∀ o ∈ E, Wel o) → (sumL b r E).2.2 = 0 → b ≤ 1099511627776 → r ≤ 1099511627776 → b + sumB E ≤ 1099511627776 ∧ r + sumR E ≤ 1099511627776
  | [], b, r, _, _, hb, hr => by simpa [sumB, sumR] using ⟨hb, hr⟩
  | o :: E, b, r, h, hz, hb, hr => by
    have hE : ∀ x ∈ E, Wel x := fun x hx => h x (List.mem_cons_of_mem _ hx)
    have e1 : sumB (o :: E) = baseO o + sumB E := rfl
    have e2 : sumR (o :: E) = resO o + sumR E := rfl
    rw [sumL] at hz
    split at hz
    · cases hz
    · have := sumL_bad hE hz (by omega) (by omega)
      rw [e1, e2]; omega
theorem mem_sums : ∀ {E : List Op5} {o : Op5}, (∀ x ∈ E, Wel x) → o ∈ E → baseO o ≤ sumB E ∧ resO o ≤ sumR E
  | x :: E, o, h, ho => by
    have hE : ∀ y ∈ E, Wel y := fun y hy => h y (List.mem_cons_of_mem _ hy)
    have n := sums_nn hE
    have hx := h x (List.mem_cons_self ..)
    have n1 := base_nn hx
    have n2 := res_nn hx
    have e1 : sumB (x :: E) = baseO x + sumB E := rfl
    have e2 : sumR (x :: E) = resO x + sumR E := rfl
    rw [e1, e2]
    rcases List.mem_cons.1 ho with rfl | ho
    · omega
    · have := mem_sums hE ho
      omega
theorem wel_good {E : List Op5} (h : ∀ o ∈ E, Wel o) (hb : sumB E ≤ 1099511627776) : ∀ o ∈ E, opE o = 0 := fun o ho => by
  refine (h o ho).good ?_
  have hw := h o ho
  have m := (mem_sums h ho).1
  rcases hw.kinds with hk | hk | hk | hk
  · obtain ⟨i, _⟩ := hw.resolve_right (by rintro (h | h) <;> omega)
    rw [i.count]; decide
  · obtain ⟨i, _⟩ := hw.resolve_right (by rintro (h | h) <;> omega)
    rw [i.count]; decide
  · unfold baseO len5 at m
    rw [if_pos (Or.inl hk), if_neg (by omega)] at m
    omega
  · unfold baseO len5 at m
    rw [if_pos (Or.inr hk), if_neg (by omega)] at m
    omega
/-- **The canonical list is canonical.** -/
theorem canon_canon {E : List Op5} (h : ∀ o ∈ E, Wel o) (hb : sumB E ≤ 1099511627776) (hr : sumR E ≤ 1099511627776) : canonB (canonL E) = true := by
  obtain ⟨t1, t2, t3, _⟩ := canon_spec h
  obtain ⟨s1, s2⟩ := canon_sums h
  unfold canonB
  rw [t2, t3, Bool.and_true, Bool.and_true]
  refine decide_eq_true ((lens_cases _).2 ⟨bad_zero.2 (wel_good t1 (by omega)), ?_⟩)
  rw [sumL_ok t1 (by omega)]
/-- Is a list canonical? By its parts. -/
theorem canonB_iff {E : List Op5} : canonB E = true ↔ (∀ o ∈ E, Wel o) ∧ sumB E ≤ 1099511627776 ∧ sumR E ≤ 1099511627776 ∧ chainB E = true ∧ lastP E = true := by
  unfold canonB
  rw [Bool.and_eq_true, Bool.and_eq_true, decide_eq_true_iff, lens_cases]
  constructor
  · rintro ⟨⟨⟨h1, h2⟩, h3⟩, h4⟩
    have hw : ∀ o ∈ E, Wel o := fun o ho => wel_of (bad_zero.1 h1 o ho)
    have := sumL_bad hw h2 (by decide) (by decide)
    exact ⟨hw, by omega, by omega, h3, h4⟩
  · rintro ⟨h1, h2, h3, h4, h5⟩
    refine ⟨⟨⟨bad_zero.2 (wel_good h1 h2), ?_⟩, h4⟩, h5⟩
    rw [sumL_ok h1 (by omega)]
end Go.Proofs.YthfpmhnnjjikcaaGreatDoor

/- Deltas unit by unit: one behind the other, and one carried over another: what they do to cells. -/
namespace Go.Proofs.YthfpmhnnjjikcaaGreatDoor
open Go Go.RowKit Go.Lib
set_option linter.unusedVariables false

theorem edit_nil (cs : List C5) : edit [] cs = some cs := rfl
theorem edit_ins (c : C5) (U : List U6) (cs : List C5) : edit (.ins c :: U) cs = (edit U cs).map (c :: ·) := by
  unfold edit
  show ((runU U cs).map _).map _ = _
  cases runU U cs <;> rfl
theorem edit_keep (A : List A2) (U : List U6) (c : C5) (cs : List C5) : edit (.keep A :: U) (c :: cs) = (edit U cs).map (patC c A :: ·) := by
  unfold edit
  show ((runU U cs).map _).map _ = _
  cases runU U cs <;> rfl
theorem edit_keep0 (A : List A2) (U : List U6) : edit (.keep A :: U) [] = none := rfl
theorem edit_del (U : List U6) (c : C5) (cs : List C5) : edit (.del :: U) (c :: cs) = edit U cs := rfl
theorem edit_del0 (U : List U6) : edit (.del :: U) [] = none := rfl

/-- A unit whose lists are what they should be. -/
def GoodU : U6 → Prop
  | .ins c => listE false none c.2.2.2 = 0 ∧ -1 ≤ c.1
  | .keep A => Pat A
  | .del => True
theorem good_units {E : List Op5} (h : ∀ o ∈ E, Wel o) : ∀ u ∈ units E, GoodU u := by
  induction E with
  | nil => intro u hu; cases hu
  | cons o r ih =>
    intro u hu
    rcases List.mem_append.1 (show u ∈ unitsO o ++ units r from hu) with hu | hu
    · have ho := h o (List.mem_cons_self ..)
      rcases unit_cases ho hu with ⟨hk, x, rfl⟩ | ⟨hk, rfl⟩ | ⟨hk, rfl⟩ | ⟨hk, rfl⟩
      · exact ⟨(ho.resolve_right (by rintro (h | h) <;> omega)).1.set, show (-1 : Int) ≤ (x : Int) by omega⟩
      · exact ⟨(ho.resolve_right (by rintro (h | h) <;> omega)).1.set, Int.le_refl _⟩
      · obtain ⟨_, _, _, _, h5⟩ := (ho.resolve_left (fun h => by omega)).resolve_right (fun h => by omega)
        exact pat_of h5
      · trivial
    · exact ih (fun x hx => h x (List.mem_cons_of_mem _ hx)) u hu
theorem setc_cons {c : C5} {cs : List C5} : SetC (c :: cs) ↔ listE false none c.2.2.2 = 0 ∧ SetC cs :=
  ⟨fun h => ⟨h c (List.mem_cons_self ..), fun x hx => h x (List.mem_cons_of_mem _ hx)⟩, fun ⟨h1, h2⟩ x hx => by
    rcases List.mem_cons.1 hx with rfl | hx
    · exact h1
    · exact h2 x hx⟩
theorem pat_set {S A : List A2} (hS : listE false none S = 0) (hA : Pat A) : listE false none (jn (chC false) S A) = 0 := by
  obtain ⟨p, n⟩ := set_of hS
  exact (Pat.jn (one_C false) p hA).set (nn_comp p.up hA.up)
theorem patC_set {c : C5} {A : List A2} (hc : listE false none c.2.2.2 = 0) (hA : Pat A) : listE false none (patC c A).2.2.2 = 0 := pat_set hc hA
theorem patC_two {c : C5} {A B : List A2} (hc : listE false none c.2.2.2 = 0) (hA : Pat A) (hB : Pat B) : patC c (jn (chC true) A B) = patC (patC c A) B := by
  obtain ⟨p, n⟩ := set_of hc
  unfold patC
  simp only
  rw [three4 p.up hA.up hB.up n]
/-- What comes of sets are sets. -/
theorem edit_setc : ∀ {U : List U6} {cs xs : List C5}, (∀ u ∈ U, GoodU u) → SetC cs → edit U cs = some xs → SetC xs
  | [], cs, xs, _, hs, h => by obtain rfl := Option.some.inj h; exact hs
  | .ins c :: U, cs, xs, hU, hs, h => by
    rw [edit_ins] at h
    obtain ⟨y, hy, rfl⟩ := Option.map_eq_some_iff.1 h
    exact setc_cons.2 ⟨(hU _ (List.mem_cons_self ..)).1, edit_setc (fun u hu => hU u (List.mem_cons_of_mem _ hu)) hs hy⟩
  | .keep A :: U, [], xs, _, _, h => by cases h
  | .keep A :: U, c :: cs, xs, hU, hs, h => by
    rw [edit_keep] at h
    obtain ⟨y, hy, rfl⟩ := Option.map_eq_some_iff.1 h
    obtain ⟨h1, h2⟩ := setc_cons.1 hs
    exact setc_cons.2 ⟨patC_set h1 (hU _ (List.mem_cons_self ..)), edit_setc (fun u hu => hU u (List.mem_cons_of_mem _ hu)) h2 hy⟩
  | .del :: U, [], xs, _, _, h => by cases h
  | .del :: U, c :: cs, xs, hU, hs, h => edit_setc (fun u hu => hU u (List.mem_cons_of_mem _ hu)) (setc_cons.1 hs).2 h

/-- First U, then V. -/
def compU : List U6 → List U6 → List U6
  | U, [] => U
  | U, .ins c :: V => .ins c :: compU U V
  | [], .keep B :: V => .keep B :: V
  | [], .del :: V => .del :: V
  | .del :: U, .keep B :: V => .del :: compU U (.keep B :: V)
  | .del :: U, .del :: V => .del :: compU U (.del :: V)
  | .ins c :: U, .keep B :: V => .ins (patC c B) :: compU U V
  | .ins c :: U, .del :: V => compU U V
  | .keep A :: U, .keep B :: V => .keep (jn (chC true) A B) :: compU U V
  | .keep A :: U, .del :: V => .del :: compU U V
termination_by U V => U.length + V.length

theorem map_bind_cons {x : Option (List C5)} {c : C5} {f : List C5 → Option (List C5)} : (x.map (c :: ·)).bind f = x.bind fun y => f (c :: y) := by cases x <;> rfl
theorem bind_map_cons {x : Option (List C5)} {c : C5} {f : List C5 → Option (List C5)} : (x.bind f).map (c :: ·) = x.bind fun y => (f y).map (c :: ·) := by cases x <;> rfl
/-- **What U and then V do, they do as one.** -/
theorem edit_comp : ∀ (U V : List U6) (cs : List C5), (∀ u ∈ U, GoodU u) → (∀ u ∈ V, GoodU u) → SetC cs → edit (compU U V) cs = (edit U cs).bind (edit V)
  | U, [], cs, _, _, _ => by rw [compU]; cases edit U cs <;> rfl
  | U, .ins c :: V, cs, hU, hV, hs => by
    rw [compU, edit_ins, edit_comp U V cs hU (fun u hu => hV u (List.mem_cons_of_mem _ hu)) hs, bind_map_cons]
    congr 1; funext y; rw [edit_ins]
  | [], .keep B :: V, cs, _, _, _ => by rw [compU]; rfl
  | [], .del :: V, cs, _, _, _ => by rw [compU]; rfl
  | .del :: U, .keep B :: V, [], _, _, _ => by rw [compU]; rfl
  | .del :: U, .keep B :: V, c :: cs, hU, hV, hs => by
    rw [compU, edit_del, edit_del]
    exact edit_comp U (.keep B :: V) cs (fun u hu => hU u (List.mem_cons_of_mem _ hu)) hV (setc_cons.1 hs).2
  | .del :: U, .del :: V, [], _, _, _ => by rw [compU]; rfl
  | .del :: U, .del :: V, c :: cs, hU, hV, hs => by
    rw [compU, edit_del, edit_del]
    exact edit_comp U (.del :: V) cs (fun u hu => hU u (List.mem_cons_of_mem _ hu)) hV (setc_cons.1 hs).2
  | .ins c :: U, .keep B :: V, cs, hU, hV, hs => by
    rw [compU, edit_ins, edit_ins, edit_comp U V cs (fun u hu => hU u (List.mem_cons_of_mem _ hu)) (fun u hu => hV u (List.mem_cons_of_mem _ hu)) hs, bind_map_cons, map_bind_cons]
    congr 1; funext y; rw [edit_keep]
  | .ins c :: U, .del :: V, cs, hU, hV, hs => by
    rw [compU, edit_ins, edit_comp U V cs (fun u hu => hU u (List.mem_cons_of_mem _ hu)) (fun u hu => hV u (List.mem_cons_of_mem _ hu)) hs, map_bind_cons]
    congr 1
  | .keep A :: U, .keep B :: V, [], _, _, _ => by rw [compU]; rfl
  | .keep A :: U, .keep B :: V, c :: cs, hU, hV, hs => by
    obtain ⟨h1, h2⟩ := setc_cons.1 hs
    rw [compU, edit_keep, edit_keep, edit_comp U V cs (fun u hu => hU u (List.mem_cons_of_mem _ hu)) (fun u hu => hV u (List.mem_cons_of_mem _ hu)) h2, bind_map_cons, map_bind_cons,
      patC_two h1 (hU _ (List.mem_cons_self ..)) (hV _ (List.mem_cons_self ..))]
    congr 1; funext y; rw [edit_keep]
  | .keep A :: U, .del :: V, [], _, _, _ => by rw [compU]; rfl
  | .keep A :: U, .del :: V, c :: cs, hU, hV, hs => by
    rw [compU, edit_del, edit_keep, edit_comp U V cs (fun u hu => hU u (List.mem_cons_of_mem _ hu)) (fun u hu => hV u (List.mem_cons_of_mem _ hu)) (setc_cons.1 hs).2, map_bind_cons]
    congr 1
termination_by U V => U.length + V.length

/-- V carried over U; f: U's inserts come first. -/
def transU (f : Bool) : List U6 → List U6 → List U6
  | [], V => V
  | .ins c :: U, .ins d :: V => if f then .keep [] :: transU f U (.ins d :: V) else .ins d :: transU f (.ins c :: U) V
  | .ins c :: U, [] => .keep [] :: transU f U []
  | .ins c :: U, .keep B :: V => .keep [] :: transU f U (.keep B :: V)
  | .ins c :: U, .del :: V => .keep [] :: transU f U (.del :: V)
  | .keep A :: U, .ins d :: V => .ins d :: transU f (.keep A :: U) V
  | .del :: U, .ins d :: V => .ins d :: transU f (.del :: U) V
  | .keep A :: U, [] => .keep [] :: transU f U []
  | .del :: U, [] => transU f U []
  | .keep A :: U, .keep B :: V => .keep (jn (chT f) A B) :: transU f U V
  | .keep A :: U, .del :: V => .del :: transU f U V
  | .del :: U, .keep B :: V => transU f U V
  | .del :: U, .del :: V => transU f U V
termination_by U V => U.length + V.length

theorem patC_both {c : C5} {A B : List A2} (f : Bool) (hc : listE false none c.2.2.2 = 0) (hA : Pat A) (hB : Pat B) : patC (patC c A) (jn (chT f) A B) = patC (patC c B) (jn (chT !f) B A) := by
  have p1 := Pat.jn (one_T f) hA hB
  have p2 := Pat.jn (one_T !f) hB hA
  rw [← patC_two hc hA p1, ← patC_two hc hB p2]
  cases f
  · rw [show jn (chC true) B (jn (chT !false) B A) = jn (chC true) A (jn (chT false) A B) from both1 hB.up hA.up]
  · rw [both1 hA.up hB.up]; rfl
theorem edit_trans0 (g : Bool) : ∀ (V : List U6) (cs : List C5), (∀ u ∈ V, GoodU u) → SetC cs → (edit V cs).bind (edit (transU g V [])) = edit V cs
  | [], cs, _, _ => by rw [transU]; rfl
  | .ins c :: V, cs, hV, hs => by
    rw [transU, edit_ins, map_bind_cons]
    have := edit_trans0 g V cs (fun u hu => hV u (List.mem_cons_of_mem _ hu)) hs
    simp only [edit_keep, patC_nil (hV _ (List.mem_cons_self ..)).1]
    rw [← bind_map_cons, this]
  | .keep A :: V, [], _, _ => by rw [transU]; rfl
  | .keep A :: V, c :: cs, hV, hs => by
    obtain ⟨h1, h2⟩ := setc_cons.1 hs
    rw [transU, edit_keep, map_bind_cons]
    have := edit_trans0 g V cs (fun u hu => hV u (List.mem_cons_of_mem _ hu)) h2
    simp only [edit_keep, patC_nil (patC_set h1 (hV (.keep A) (List.mem_cons_self ..)))]
    rw [← bind_map_cons, this]
  | .del :: V, [], _, _ => by rw [transU]; rfl
  | .del :: V, c :: cs, hV, hs => by
    rw [transU, edit_del]
    exact edit_trans0 g V cs (fun u hu => hV u (List.mem_cons_of_mem _ hu)) (setc_cons.1 hs).2
/-- **Both ways round make one thing of the cells: the merge.** -/
theorem edit_both (f : Bool) : ∀ (U V : List U6) (cs : List C5), (∀ u ∈ U, GoodU u) → (∀ u ∈ V, GoodU u) → SetC cs →
    (edit U cs).bind (edit (transU f U V)) = (edit V cs).bind (edit (transU (!f) V U))
  | [], V, cs, _, hV, hs => by rw [edit_trans0 _ V cs hV hs, transU]; rfl
  | .ins c :: U, [], cs, hU, _, hs => by rw [edit_trans0 _ (.ins c :: U) cs hU hs, transU]; rfl
  | .keep c :: U, [], cs, hU, _, hs => by rw [edit_trans0 _ (.keep c :: U) cs hU hs, transU]; rfl
  | .del :: U, [], cs, hU, _, hs => by rw [edit_trans0 _ (.del :: U) cs hU hs, transU]; rfl
  | .ins c :: U, .ins d :: V, cs, hU, hV, hs => by
    cases f with
    | true =>
      have ih := edit_both true U (.ins d :: V) cs (fun u hu => hU u (List.mem_cons_of_mem _ hu)) hV hs
      rw [transU, if_pos rfl, edit_ins c, map_bind_cons]
      simp only [edit_keep, patC_nil (hU _ (List.mem_cons_self ..)).1]
      rw [← bind_map_cons, ih]
      show _ = (edit (.ins d :: V) cs).bind (edit (transU false (.ins d :: V) (.ins c :: U)))
      rw [transU, if_neg (by simp), bind_map_cons]
      congr 1; funext y; rw [edit_ins]; rfl
    | false =>
      have ih := edit_both false (.ins c :: U) V cs hU (fun u hu => hV u (List.mem_cons_of_mem _ hu)) hs
      show _ = (edit (.ins d :: V) cs).bind (edit (transU true (.ins d :: V) (.ins c :: U)))
      rw [transU.eq_2 true, if_pos rfl, edit_ins d, map_bind_cons]
      simp only [edit_keep, patC_nil (hV _ (List.mem_cons_self ..)).1]
      rw [← bind_map_cons]
      have ih : _ = (edit V cs).bind (edit (transU true V (.ins c :: U))) := ih
      rw [← ih, transU, if_neg (by simp), bind_map_cons]
      congr 1; funext y; rw [edit_ins]
  | .ins c :: U, .keep B :: V, cs, hU, hV, hs => by
    have ih := edit_both f U (.keep B :: V) cs (fun u hu => hU u (List.mem_cons_of_mem _ hu)) hV hs
    rw [transU, edit_ins c, map_bind_cons]
    simp only [edit_keep, patC_nil (hU _ (List.mem_cons_self ..)).1]
    rw [← bind_map_cons, ih, transU, bind_map_cons]
    congr 1; funext y; rw [edit_ins]
  | .ins c :: U, .del :: V, cs, hU, hV, hs => by
    have ih := edit_both f U (.del :: V) cs (fun u hu => hU u (List.mem_cons_of_mem _ hu)) hV hs
    rw [transU, edit_ins c, map_bind_cons]
    simp only [edit_keep, patC_nil (hU _ (List.mem_cons_self ..)).1]
    rw [← bind_map_cons, ih, transU, bind_map_cons]
    congr 1; funext y; rw [edit_ins]
  | .keep A :: U, .ins d :: V, cs, hU, hV, hs => by
    have ih := edit_both f (.keep A :: U) V cs hU (fun u hu => hV u (List.mem_cons_of_mem _ hu)) hs
    rw [transU.eq_4, edit_ins d, map_bind_cons]
    simp only [edit_keep, patC_nil (hV _ (List.mem_cons_self ..)).1]
    rw [← bind_map_cons, ← ih, transU, bind_map_cons]
    congr 1; funext y; rw [edit_ins]
  | .del :: U, .ins d :: V, cs, hU, hV, hs => by
    have ih := edit_both f (.del :: U) V cs hU (fun u hu => hV u (List.mem_cons_of_mem _ hu)) hs
    rw [transU.eq_5, edit_ins d, map_bind_cons]
    simp only [edit_keep, patC_nil (hV _ (List.mem_cons_self ..)).1]
    rw [← bind_map_cons, ← ih, transU, bind_map_cons]
    congr 1; funext y; rw [edit_ins]
  | .keep A :: U, .keep B :: V, [], _, _, _ => rfl
  | .keep A :: U, .keep B :: V, c :: cs, hU, hV, hs => by
    obtain ⟨h1, h2⟩ := setc_cons.1 hs
    have ih := edit_both f U V cs (fun u hu => hU u (List.mem_cons_of_mem _ hu)) (fun u hu => hV u (List.mem_cons_of_mem _ hu)) h2
    rw [transU, edit_keep, map_bind_cons, transU, edit_keep, map_bind_cons]
    simp only [edit_keep]
    rw [patC_both f h1 (hU (.keep A) (List.mem_cons_self ..)) (hV (.keep B) (List.mem_cons_self ..)), ← bind_map_cons, ih, bind_map_cons]
  | .keep A :: U, .del :: V, [], _, _, _ => rfl
  | .keep A :: U, .del :: V, c :: cs, hU, hV, hs => by
    have ih := edit_both f U V cs (fun u hu => hU u (List.mem_cons_of_mem _ hu)) (fun u hu => hV u (List.mem_cons_of_mem _ hu)) (setc_cons.1 hs).2
    rw [transU, edit_keep, map_bind_cons, transU, edit_del]
    exact ih
  | .del :: U, .keep B :: V, [], _, _, _ => rfl
  | .del :: U, .keep B :: V, c :: cs, hU, hV, hs => by
    have ih := edit_both f U V cs (fun u hu => hU u (List.mem_cons_of_mem _ hu)) (fun u hu => hV u (List.mem_cons_of_mem _ hu)) (setc_cons.1 hs).2
    rw [transU, edit_keep, map_bind_cons, transU, edit_del]
    exact ih
  | .del :: U, .del :: V, [], _, _, _ => rfl
  | .del :: U, .del :: V, c :: cs, hU, hV, hs => by
    have ih := edit_both f U V cs (fun u hu => hU u (List.mem_cons_of_mem _ hu)) (fun u hu => hV u (List.mem_cons_of_mem _ hu)) (setc_cons.1 hs).2
    rw [transU, edit_del, transU, edit_del]
    exact ih
termination_by U V => U.length + V.length
end Go.Proofs.YthfpmhnnjjikcaaGreatDoor

/- Two canonical lists that do the same to all long enough documents are one. -/
namespace Go.Proofs.YthfpmhnnjjikcaaGreatDoor
open Go Go.RowKit Go.Lib
set_option linter.unusedVariables false

/-- Nothing comes right behind a cell that goes (d: one has just gone). -/
def NrmP : Bool → List U6 → Prop
  | _, [] => True
  | d, .ins c :: U => d = false ∧ NrmP false U
  | _, .keep A :: U => NrmP false U
  | _, .del :: U => NrmP true U
theorem nrmP_weak : ∀ {U : List U6}, NrmP true U → NrmP false U
  | [], _ => trivial
  | .ins c :: U, h => absurd h.1 (by simp)
  | .keep A :: U, h => h
  | .del :: U, h => h
theorem nrmP_ins : ∀ (l : List C5) {U : List U6}, NrmP false U → NrmP false (l.map .ins ++ U)
  | [], _, h => h
  | c :: l, _, h => ⟨rfl, nrmP_ins l h⟩
theorem nrmP_dels : ∀ (n : Nat) {d : Bool} {U : List U6}, NrmP true U → (d = true ∨ 0 < n ∨ NrmP d U) → NrmP d (List.replicate n .del ++ U)
  | 0, d, U, h, h2 => by
    rcases h2 with rfl | h2 | h2
    · exact h
    · omega
    · exact h2
  | n + 1, d, U, h, h2 => by
    rw [List.replicate_succ]
    exact nrmP_dels n (d := true) h (Or.inl rfl)
theorem nrmP_nrm : ∀ (U : List U6) (l : List C5) (d : Nat), NrmP false (nrm (l.map .ins) d U)
  | [], l, d => by
    rw [nrm]
    refine nrmP_ins l ?_
    have := nrmP_dels d (d := false) (U := []) trivial (Or.inr (Or.inr trivial))
    simpa using this
  | .keep A :: r, l, d => by
    rw [nrm]
    refine nrmP_ins l (nrmP_dels d (d := false) ?_ (Or.inr (Or.inr ?_)))
    · exact nrmP_nrm r [] 0
    · exact nrmP_nrm r [] 0
  | .del :: r, l, d => by rw [nrm]; exact nrmP_nrm r l (d + 1)
  | .ins c :: r, l, d => by
    rw [nrm, show l.map U6.ins ++ [.ins c] = (l ++ [c]).map U6.ins by simp]
    exact nrmP_nrm r (l ++ [c]) d
theorem nrmP_chain {E : List Op5} (h : ∀ o ∈ E, Wel o) (hc : chainB E = true) : NrmP false (units E) := by
  have := nrmP_nrm (units E) [] 0
  rw [show (([] : List C5).map U6.ins) = [] from rfl, nrm_chain [] h hc] at this
  exact this
theorem nrmP_keeps (A : List A2) (n : Nat) : ∀ {d : Bool} {U : List U6}, NrmP d U → NrmP d (U ++ List.replicate n (.keep A))
  | d, [], _ => by
    rw [List.nil_append]
    have aux : ∀ (n : Nat) (d : Bool), NrmP d (List.replicate n (.keep A)) := fun n => by
      induction n with
      | zero => intro d; trivial
      | succ n ih => intro d; rw [List.replicate_succ]; exact ih false
    exact aux n d
  | d, .ins c :: U, h => ⟨h.1, nrmP_keeps A n (d := false) (U := U) h.2⟩
  | d, .keep B :: U, h => nrmP_keeps A n (d := false) (U := U) h
  | d, .del :: U, h => nrmP_keeps A n (d := true) (U := U) h

/-- Cells that are told apart by their numbers, with attributes at will. -/
def docS (S : Nat → List A2) : Nat → Nat → List C5
  | _, 0 => []
  | k, n + 1 => (-(2 + (k : Int)), ⟨#[]⟩, z0, S k) :: docS S (k + 1) n
theorem docS_len (S : Nat → List A2) : ∀ (n k : Nat), (docS S k n).length = n
  | 0, _ => rfl
  | n + 1, k => by show _ + 1 = _; rw [docS_len S n (k + 1)]
theorem docS_set {S : Nat → List A2} (h : ∀ i, listE false none (S i) = 0) : ∀ (n k : Nat), SetC (docS S k n)
  | 0, _ => fun c hc => by cases hc
  | n + 1, k => setc_cons.2 ⟨h k, docS_set h n (k + 1)⟩
theorem base_cons (u : U6) (U : List U6) : baseU (u :: U) = baseU U + (match u with | .ins _ => 0 | _ => 1) := by
  unfold baseU
  rw [List.countP_cons]
  cases u <;> rfl
theorem run_some : ∀ (U : List U6) (cs : List C5), baseU U ≤ cs.length → ∃ o, runU U cs = some (o, cs.drop (baseU U))
  | [], cs, _ => ⟨[], rfl⟩
  | .ins c :: U, cs, h => by
    rw [base_cons] at h ⊢
    obtain ⟨o, ho⟩ := run_some U cs (by simpa using h)
    refine ⟨c :: o, ?_⟩
    show (runU U cs).map _ = _
    rw [ho]; rfl
  | .keep A :: U, [], h => by rw [base_cons] at h; simp at h
  | .keep A :: U, c :: cs, h => by
    rw [base_cons] at h ⊢
    obtain ⟨o, ho⟩ := run_some U cs (by simpa using h)
    refine ⟨patC c A :: o, ?_⟩
    show (runU U cs).map _ = _
    rw [ho]; rfl
  | .del :: U, [], h => by rw [base_cons] at h; simp at h
  | .del :: U, c :: cs, h => by
    rw [base_cons] at h ⊢
    obtain ⟨o, ho⟩ := run_some U cs (by simpa using h)
    exact ⟨o, ho⟩
theorem edit_some {U : List U6} {cs : List C5} (h : baseU U ≤ cs.length) : ∃ xs, edit U cs = some xs := by
  obtain ⟨o, ho⟩ := run_some U cs h
  exact ⟨_, by unfold edit; rw [ho]; rfl⟩
theorem edit_keeps : ∀ (n : Nat) (cs : List C5), SetC cs → n ≤ cs.length → edit (List.replicate n (.keep [])) cs = some cs
  | 0, cs, _, _ => rfl
  | n + 1, [], _, h => by simp at h
  | n + 1, c :: cs, hs, h => by
    obtain ⟨h1, h2⟩ := setc_cons.1 hs
    rw [List.replicate_succ, edit_keep, edit_keeps n cs h2 (by simpa using h), patC_nil h1]; rfl
/-- Plain retains at the end do nothing. -/
theorem edit_pad {U : List U6} {cs : List C5} {n : Nat} (hs : SetC cs) (h : baseU U + n ≤ cs.length) : edit (U ++ List.replicate n (.keep [])) cs = edit U cs := by
  obtain ⟨o, ho⟩ := run_some U cs (by omega)
  have hr : SetC (cs.drop (baseU U)) := fun c hc => hs c (List.mem_of_mem_drop hc)
  have hk := edit_keeps n (cs.drop (baseU U)) hr (by rw [List.length_drop]; omega)
  unfold edit at hk ⊢
  rw [run_append, ho]
  simp only [Option.bind_some]
  obtain ⟨x, hx, he⟩ := Option.map_eq_some_iff.1 hk
  rw [hx]
  simp only [Option.map_some]
  rw [← he, List.append_assoc]
/-- What comes first behind a cell that goes lies behind it. -/
theorem head_del {S : Nat → List A2} : ∀ {V : List U6} {j m : Nat} {xs : List C5}, NrmP true V → edit V (docS S j m) = some xs → ∀ x t, xs = x :: t → x.1 ≤ -(2 + (j : Int))
  | [], j, m, xs, _, h, x, t, e => by
    have h : docS S j m = xs := Option.some.inj h
    cases m with
    | zero => rw [← h] at e; cases e
    | succ m => rw [← h] at e; obtain ⟨rfl, -⟩ := List.cons.inj e; exact Int.le_refl _
  | .ins c :: V, j, m, xs, hn, _, x, t, e => absurd hn.1 (by simp)
  | .keep A :: V, j, 0, xs, _, h, x, t, e => by cases h
  | .keep A :: V, j, m + 1, xs, _, h, x, t, e => by
    rw [show docS S j (m + 1) = (-(2 + (j : Int)), ⟨#[]⟩, z0, S j) :: docS S (j + 1) m from rfl, edit_keep] at h
    obtain ⟨y, hy, rfl⟩ := Option.map_eq_some_iff.1 h
    obtain ⟨rfl, -⟩ := List.cons.inj e
    exact Int.le_refl _
  | .del :: V, j, 0, xs, _, h, x, t, e => by cases h
  | .del :: V, j, m + 1, xs, hn, h, x, t, e => by
    have := head_del (V := V) (j := j + 1) (m := m) hn h x t e
    omega
theorem pat_one {k : ByteArray} {n : Int} {A : List A2} (hA : Pat A) {p : P3} (h : look k A = some p) : listE false none [(k, 2, n, ⟨#[]⟩)] = 0 := by
  have hg := hA.good _ (look_mem h)
  have hk := (pairE_zero.1 hg).1
  have hp : Pat [(k, 2, n, (⟨#[]⟩ : ByteArray))] := ⟨fun q hq => by rw [List.mem_singleton.1 hq]; exact pairE_zero.2 ⟨hk, chk_num n⟩, List.pairwise_singleton _ _⟩
  exact hp.set fun q hq => by rw [List.mem_singleton.1 hq]; show (2 : Int) ≠ 0; decide
/-- Patches that do the same to every set are one. -/
theorem pat_ext {A B : List A2} (hA : Pat A) (hB : Pat B) (h : ∀ S, listE false none S = 0 → jn (chC false) S A = jn (chC false) S B) : A = B := by
  have e0 : listE false none [] = 0 := by rw [listE]
  have one : ∀ {A B : List A2}, Pat A → Pat B → (∀ S, listE false none S = 0 → jn (chC false) S A = jn (chC false) S B) → ∀ k v, look k A = some v → look k B = none → False := fun {A B} hA hB h k v e1 e2 => by
    have key : ∀ n : Int, at2 (fOf (chC false)) (some (2, n, ⟨#[]⟩)) (some v) = some (2, n, ⟨#[]⟩) := fun n => by
      have hs := pat_one (n := n) hA e1
      obtain ⟨ps, _⟩ := set_of hs
      have := congrArg (look k) (h _ hs)
      rw [look_join _ ps.up hA.up, look_join _ ps.up hB.up, e1, e2, show look k [(k, (2 : Int), n, (⟨#[]⟩ : ByteArray))] = some (2, n, ⟨#[]⟩) by rw [look, if_pos rfl]] at this
      rw [this]; rfl
    have k0 := key 0
    have k1 := key 1
    by_cases hv : v.1 = 0
    · simp [at2, fOf, chC, hv] at k0
    · simp [at2, fOf, chC, hv] at k0 k1
      rw [k0] at k1
      simp at k1
  refine up_ext hA.up hB.up fun k => ?_
  cases e1 : look k A with
  | none =>
    cases e2 : look k B with
    | none => rfl
    | some v => exact (one hB hA (fun S hS => (h S hS).symm) k v e2 e1).elim
  | some u =>
    cases e2 : look k B with
    | none => exact (one hA hB h k u e1 e2).elim
    | some v =>
      have := congrArg (look k) (h [] e0)
      rw [look_join _ up_nil hA.up, look_join _ up_nil hB.up, e1, e2] at this
      have n1 := hA.null0 _ (look_mem e1)
      have n2 := hB.null0 _ (look_mem e2)
      simp only at n1 n2
      by_cases hu : u.1 = 0
      · by_cases hv : v.1 = 0
        · rw [n1 hu, n2 hv]
        · simp [look, at2, fOf, chC, hu, hv] at this
      · by_cases hv : v.1 = 0
        · simp [look, at2, fOf, chC, hu, hv] at this
        · simp [look, at2, fOf, chC, hu, hv] at this
          rw [this]
theorem units_ext : ∀ {U V : List U6} {d : Bool} {k n : Nat}, (∀ u ∈ U, GoodU u) → (∀ u ∈ V, GoodU u) → NrmP d U → NrmP d V → baseU U = n → baseU V = n →
    (∀ S : Nat → List A2, (∀ i, listE false none (S i) = 0) → edit U (docS S k n) = edit V (docS S k n)) → U = V
  | [], [], _, _, _, _, _, _, _, _, _, _ => rfl
  | [], .ins c :: V, d, k, n, gU, gV, nU, nV, bU, bV, h => by
    exfalso
    have := h (fun _ => []) (fun _ => by rw [listE])
    have b0 : n = 0 := bU.symm
    subst b0
    rw [edit_ins] at this
    have e : some ([] : List C5) = _ := this
    cases hx : edit V (docS (fun _ => []) k 0) with
    | none => rw [hx] at e; cases e
    | some y => rw [hx] at e; simp at e
  | [], .keep A :: V, d, k, n, gU, gV, nU, nV, bU, bV, h => by
    exfalso
    rw [base_cons] at bV
    have b0 : n = 0 := bU.symm
    simp at bV; omega
  | [], .del :: V, d, k, n, gU, gV, nU, nV, bU, bV, h => by
    exfalso
    rw [base_cons] at bV
    have b0 : n = 0 := bU.symm
    simp at bV; omega
  | .ins c :: U, [], d, k, n, gU, gV, nU, nV, bU, bV, h => by
    exfalso
    have := h (fun _ => []) (fun _ => by rw [listE])
    have b0 : n = 0 := bV.symm
    subst b0
    rw [edit_ins] at this
    have e : _ = some ([] : List C5) := this
    cases hx : edit U (docS (fun _ => []) k 0) with
    | none => rw [hx] at e; cases e
    | some y => rw [hx] at e; simp at e
  | .keep A :: U, [], d, k, n, gU, gV, nU, nV, bU, bV, h => by
    exfalso
    rw [base_cons] at bU
    have b0 : n = 0 := bV.symm
    simp at bU; omega
  | .del :: U, [], d, k, n, gU, gV, nU, nV, bU, bV, h => by
    exfalso
    rw [base_cons] at bU
    have b0 : n = 0 := bV.symm
    simp at bU; omega
  | .ins c :: U, .ins e :: V, d, k, n, gU, gV, nU, nV, bU, bV, h => by
    rw [base_cons] at bU bV
    simp only [Nat.add_zero] at bU bV
    have one : ∀ S : Nat → List A2, (∀ i, listE false none (S i) = 0) → c = e ∧ edit U (docS S k n) = edit V (docS S k n) := fun S hS => by
      have := h S hS
      rw [edit_ins, edit_ins] at this
      obtain ⟨x, hx⟩ := edit_some (U := U) (cs := docS S k n) (by rw [docS_len]; omega)
      obtain ⟨y, hy⟩ := edit_some (U := V) (cs := docS S k n) (by rw [docS_len]; omega)
      rw [hx, hy] at this
      simp only [Option.map_some, Option.some.injEq, List.cons.injEq] at this
      exact ⟨this.1, by rw [hx, hy, this.2]⟩
    rw [(one (fun _ => []) (fun _ => by rw [listE])).1, units_ext (U := U) (V := V) (fun u hu => gU u (List.mem_cons_of_mem _ hu)) (fun u hu => gV u (List.mem_cons_of_mem _ hu)) nU.2 nV.2 bU bV fun S hS => (one S hS).2]
  | .ins c :: U, .keep B :: V, d, k, n, gU, gV, nU, nV, bU, bV, h => by
    exfalso
    rw [base_cons] at bU bV
    simp only [Nat.add_zero] at bU bV
    obtain ⟨m, rfl⟩ : ∃ m, n = m + 1 := ⟨n - 1, by omega⟩
    have := h (fun _ => []) (fun _ => by rw [listE])
    rw [edit_ins, show docS (fun _ => []) k (m + 1) = (-(2 + (k : Int)), ⟨#[]⟩, z0, []) :: docS (fun _ => []) (k + 1) m from rfl, edit_keep] at this
    obtain ⟨y, hy⟩ := edit_some (U := V) (cs := docS (fun _ => []) (k + 1) m) (by rw [docS_len]; omega)
    rw [hy] at this
    obtain ⟨x, hx, he⟩ := Option.map_eq_some_iff.1 this
    have hc := (gU _ (List.mem_cons_self ..)).2
    have e1 : c = patC _ B := (List.cons.inj he).1
    rw [e1] at hc
    have hc : (-1 : Int) ≤ -(2 + (k : Int)) := hc
    omega
  | .ins c :: U, .del :: V, d, k, n, gU, gV, nU, nV, bU, bV, h => by
    exfalso
    rw [base_cons] at bU bV
    simp only [Nat.add_zero] at bU bV
    obtain ⟨m, rfl⟩ : ∃ m, n = m + 1 := ⟨n - 1, by omega⟩
    have := h (fun _ => []) (fun _ => by rw [listE])
    rw [edit_ins, show docS (fun _ => []) k (m + 1) = (-(2 + (k : Int)), ⟨#[]⟩, z0, []) :: docS (fun _ => []) (k + 1) m from rfl, edit_del] at this
    obtain ⟨y, hy⟩ := edit_some (U := V) (cs := docS (fun _ => []) (k + 1) m) (by rw [docS_len]; omega)
    rw [hy] at this
    obtain ⟨x, hx, he⟩ := Option.map_eq_some_iff.1 this
    have hc := (gU _ (List.mem_cons_self ..)).2
    have := head_del (V := V) nV hy c x he.symm
    omega
  | .keep A :: U, .ins e :: V, d, k, n, gU, gV, nU, nV, bU, bV, h => by
    exfalso
    rw [base_cons] at bU bV
    simp only [Nat.add_zero] at bU bV
    obtain ⟨m, rfl⟩ : ∃ m, n = m + 1 := ⟨n - 1, by omega⟩
    have := (h (fun _ => []) (fun _ => by rw [listE])).symm
    rw [edit_ins, show docS (fun _ => []) k (m + 1) = (-(2 + (k : Int)), ⟨#[]⟩, z0, []) :: docS (fun _ => []) (k + 1) m from rfl, edit_keep] at this
    obtain ⟨y, hy⟩ := edit_some (U := U) (cs := docS (fun _ => []) (k + 1) m) (by rw [docS_len]; omega)
    rw [hy] at this
    obtain ⟨x, hx, he⟩ := Option.map_eq_some_iff.1 this
    have hc := (gV _ (List.mem_cons_self ..)).2
    have e1 : e = patC _ A := (List.cons.inj he).1
    rw [e1] at hc
    have hc : (-1 : Int) ≤ -(2 + (k : Int)) := hc
    omega
  | .del :: U, .ins e :: V, d, k, n, gU, gV, nU, nV, bU, bV, h => by
    exfalso
    rw [base_cons] at bU bV
    simp only [Nat.add_zero] at bU bV
    obtain ⟨m, rfl⟩ : ∃ m, n = m + 1 := ⟨n - 1, by omega⟩
    have := (h (fun _ => []) (fun _ => by rw [listE])).symm
    rw [edit_ins, show docS (fun _ => []) k (m + 1) = (-(2 + (k : Int)), ⟨#[]⟩, z0, []) :: docS (fun _ => []) (k + 1) m from rfl, edit_del] at this
    obtain ⟨y, hy⟩ := edit_some (U := U) (cs := docS (fun _ => []) (k + 1) m) (by rw [docS_len]; omega)
    rw [hy] at this
    obtain ⟨x, hx, he⟩ := Option.map_eq_some_iff.1 this
    have hc := (gV _ (List.mem_cons_self ..)).2
    have := head_del (V := U) nU hy e x he.symm
    omega
  | .keep A :: U, .keep B :: V, d, k, n, gU, gV, nU, nV, bU, bV, h => by
    rw [base_cons] at bU bV
    obtain ⟨m, rfl⟩ : ∃ m, n = m + 1 := ⟨n - 1, by simp only at bU; omega⟩
    simp only [Nat.add_right_cancel_iff] at bU bV
    have one : ∀ S : Nat → List A2, (∀ i, listE false none (S i) = 0) → jn (chC false) (S k) A = jn (chC false) (S k) B ∧ edit U (docS S (k + 1) m) = edit V (docS S (k + 1) m) := fun S hS => by
      have := h S hS
      rw [show docS S k (m + 1) = (-(2 + (k : Int)), ⟨#[]⟩, z0, S k) :: docS S (k + 1) m from rfl, edit_keep, edit_keep] at this
      obtain ⟨x, hx⟩ := edit_some (U := U) (cs := docS S (k + 1) m) (by rw [docS_len]; omega)
      obtain ⟨y, hy⟩ := edit_some (U := V) (cs := docS S (k + 1) m) (by rw [docS_len]; omega)
      rw [hx, hy] at this
      simp only [Option.map_some, Option.some.injEq, List.cons.injEq] at this
      exact ⟨congrArg (fun c : C5 => c.2.2.2) this.1, by rw [hx, hy, this.2]⟩
    have hAB : A = B := pat_ext (gU (.keep A) (List.mem_cons_self ..)) (gV (.keep B) (List.mem_cons_self ..)) fun S hS => (one (fun _ => S) (fun _ => hS)).1
    rw [hAB, units_ext (U := U) (V := V) (fun u hu => gU u (List.mem_cons_of_mem _ hu)) (fun u hu => gV u (List.mem_cons_of_mem _ hu)) nU nV bU bV fun S hS => (one S hS).2]
  | .keep A :: U, .del :: V, d, k, n, gU, gV, nU, nV, bU, bV, h => by
    exfalso
    rw [base_cons] at bU bV
    obtain ⟨m, rfl⟩ : ∃ m, n = m + 1 := ⟨n - 1, by simp only at bU; omega⟩
    simp only [Nat.add_right_cancel_iff] at bU bV
    have := h (fun _ => []) (fun _ => by rw [listE])
    rw [show docS (fun _ => []) k (m + 1) = (-(2 + (k : Int)), ⟨#[]⟩, z0, []) :: docS (fun _ => []) (k + 1) m from rfl, edit_keep, edit_del] at this
    obtain ⟨y, hy⟩ := edit_some (U := V) (cs := docS (fun _ => []) (k + 1) m) (by rw [docS_len]; omega)
    rw [hy] at this
    obtain ⟨x, hx, he⟩ := Option.map_eq_some_iff.1 this
    have h1 := head_del (V := V) nV hy _ x he.symm
    have h1 : -(2 + (k : Int)) ≤ -(2 + ((k + 1 : Nat) : Int)) := h1
    omega
  | .del :: U, .keep B :: V, d, k, n, gU, gV, nU, nV, bU, bV, h => by
    exfalso
    rw [base_cons] at bU bV
    obtain ⟨m, rfl⟩ : ∃ m, n = m + 1 := ⟨n - 1, by simp only at bU; omega⟩
    simp only [Nat.add_right_cancel_iff] at bU bV
    have := (h (fun _ => []) (fun _ => by rw [listE])).symm
    rw [show docS (fun _ => []) k (m + 1) = (-(2 + (k : Int)), ⟨#[]⟩, z0, []) :: docS (fun _ => []) (k + 1) m from rfl, edit_keep, edit_del] at this
    obtain ⟨y, hy⟩ := edit_some (U := U) (cs := docS (fun _ => []) (k + 1) m) (by rw [docS_len]; omega)
    rw [hy] at this
    obtain ⟨x, hx, he⟩ := Option.map_eq_some_iff.1 this
    have h1 := head_del (V := U) nU hy _ x he.symm
    have h1 : -(2 + (k : Int)) ≤ -(2 + ((k + 1 : Nat) : Int)) := h1
    omega
  | .del :: U, .del :: V, d, k, n, gU, gV, nU, nV, bU, bV, h => by
    rw [base_cons] at bU bV
    obtain ⟨m, rfl⟩ : ∃ m, n = m + 1 := ⟨n - 1, by simp only at bU; omega⟩
    simp only [Nat.add_right_cancel_iff] at bU bV
    rw [units_ext (U := U) (V := V) (fun u hu => gU u (List.mem_cons_of_mem _ hu)) (fun u hu => gV u (List.mem_cons_of_mem _ hu)) nU nV bU bV fun S hS => h S hS]
/-- **Two canonical lists that do the same to all long documents are one.** -/
theorem canon_ext {E F : List Op5} (hE : ∀ o ∈ E, Wel o) (hF : ∀ o ∈ F, Wel o) (cE : chainB E = true) (cF : chainB F = true) (lE : lastP E = true) (lF : lastP F = true) (N : Nat)
    (h : ∀ cs, SetC cs → N ≤ cs.length → edit (units E) cs = edit (units F) cs) : E = F := by
  obtain ⟨n, hn⟩ : ∃ n, n = N + baseU (units E) + baseU (units F) := ⟨_, rfl⟩
  have pk : ∀ m (u : U6), u ∈ List.replicate m (U6.keep []) → GoodU u := fun m u hu => by rw [List.eq_of_mem_replicate hu]; exact Pat.nil
  have bk : ∀ m, baseU (List.replicate m (U6.keep [])) = m := fun m => by
    unfold baseU
    rw [countP_all (fun u hu => by rw [List.eq_of_mem_replicate hu]), List.length_replicate]
  have ba : ∀ U V, baseU (U ++ V) = baseU U + baseU V := fun U V => by unfold baseU; rw [List.countP_append]
  have e := units_ext (U := units E ++ List.replicate (n - baseU (units E)) (.keep [])) (V := units F ++ List.replicate (n - baseU (units F)) (.keep [])) (d := false) (k := 0) (n := n)
    (fun u hu => (List.mem_append.1 hu).elim (good_units hE u) (pk _ u)) (fun u hu => (List.mem_append.1 hu).elim (good_units hF u) (pk _ u))
    (nrmP_keeps _ _ (nrmP_chain hE cE)) (nrmP_keeps _ _ (nrmP_chain hF cF)) (by rw [ba, bk]; omega) (by rw [ba, bk]; omega)
    (fun S hS => by
      have hs := docS_set hS n 0
      rw [edit_pad hs (by rw [docS_len]; omega), edit_pad hs (by rw [docS_len]; omega)]
      exact h _ hs (by rw [docS_len]; omega))
  have e := congrArg stripU e
  rw [strip_plain rfl, strip_plain rfl, strip_can hE lE, strip_can hF lF] at e
  exact units_inj hE hF cE cF e
end Go.Proofs.YthfpmhnnjjikcaaGreatDoor
