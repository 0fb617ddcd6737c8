/- Loops over a function (Wl's law), twice anew: the assignment may lay blocks of its own and the body is told that its loop's record lies there; and the same within a round of another such loop. -/
import Derived.Test.YthfpmhnnjjikcaaGreatDoorWl
namespace Go.Proofs.YthfpmhnnjjikcaaGreatDoor
open Go Go.RowKit
set_option linter.unusedVariables false
/-- What has turned is neither cells nor a text gone over, and lies from B on and below C. -/
structure Bk9 (B C : Nat) (A A' : World) : Prop where
  os : A'.os = A.os
  tape : A'.tape = A.tape
  output : A'.output = A.output
  size : A.heap.size ≤ A'.heap.size
  kept : ∀ (k : Nat) (o : Obj), A.heap[k]? = some o → (k < B ∨ C ≤ k ∨ o.isCells = true ∨ ∃ t p, o = .stringIter t p) → A'.heap[k]? = some o
theorem Bk9.seven {B C : Nat} {A A' : World} (h : Bk9 B C A A') : Bk7 B A A' := ⟨h.os, h.tape, h.output, h.size, fun k o hk ho => h.kept k o hk (ho.imp id fun q => .inr (.inl q))⟩
theorem Bk9.tr {T : TypeId → Prop} {B C : Nat} {A A' : World} (h : Bk9 B C A A') : Tr7 T B A A' := h.seven.tr
theorem Bk9.cells {B C : Nat} {A A' : World} (h : Bk9 B C A A') {k : Nat} {cs : Array Value} {t : TypeId} {fz : Nat × Nat} (hk : A.heap[k]? = some (.cells cs t fz)) : A'.heap[k]? = some (.cells cs t fz) := h.kept k _ hk (.inr (.inr (.inl rfl)))
theorem Bk9.ite {B C : Nat} {A A' : World} (h : Bk9 B C A A') {k : Nat} {t : ByteArray} {p : Nat} (hk : A.heap[k]? = some (.stringIter t p)) : A'.heap[k]? = some (.stringIter t p) := h.kept k _ hk (.inr (.inr (.inr ⟨_, _, rfl⟩)))
theorem Bk9.trans {B C : Nat} {X Y Z : World} (h : Bk9 B C X Y) (k : Bk9 B C Y Z) : Bk9 B C X Z :=
  ⟨k.os.trans h.os, k.tape.trans h.tape, k.output.trans h.output, Nat.le_trans h.size k.size, fun i o hi ho => k.kept i o (h.kept i o hi ho) ho⟩
theorem Bk9.put {B C l : Nat} {W : World} {r : Loop} (o' : Obj) (hB : B ≤ l) (hC : l < C) (hl : W.heap[l]? = some (.loop r)) : Bk9 B C W (W.putObj l o') :=
  ⟨rfl, rfl, rfl, by simp, fun k x hk hx => by
    have : k ≠ l := fun e => by
      subst e; rw [hl] at hk; cases hk
      rcases hx with hx | hx | hx | ⟨_, _, hx⟩
      · omega
      · omega
      · cases hx
      · cases hx
    exact (World.putObj_heap_other this).trans hk⟩
theorem Bk9.alloc (B C : Nat) (W : World) (o : Obj) : Bk9 B C W (W.alloc o) :=
  ⟨rfl, rfl, rfl, by simp, fun k x hk _ => (Below.heap_alloc _ _ _ (Array.getElem?_eq_some_iff.1 hk).1).trans hk⟩
theorem Bk9.of_below {B C : Nat} {A A' : World} (h : Below A.heap.size A A') : Bk9 B C A A' :=
  ⟨h.os, h.tape, h.output, h.size, fun k o hk _ => (h.block k (Array.getElem?_eq_some_iff.1 hk).1).trans hk⟩
theorem Tr7.mono {T T' : TypeId → Prop} {B B' : Nat} {A A' : World} (h : Tr7 T B A A') (hT : ∀ t, T t → T' t) (hB : B' ≤ B) : Tr7 T' B' A A' :=
  ⟨h.os, h.tape, h.output, h.size, fun k o hk ho => h.kept k o hk (ho.imp (fun q => by omega) (fun ⟨cs, t, fz, e, hn⟩ => ⟨cs, t, fz, e, fun ht => hn (hT t ht)⟩))⟩
/-- What has turned is cells of certain types, or a text gone over, at B or beyond. -/
structure It9 (T : TypeId → Prop) (B : Nat) (A A' : World) : Prop where
  os : A'.os = A.os
  tape : A'.tape = A.tape
  output : A'.output = A.output
  size : A.heap.size ≤ A'.heap.size
  kept : ∀ (k : Nat) (o : Obj), A.heap[k]? = some o → (k < B ∨ ((¬ ∃ cs t fz, o = .cells cs t fz ∧ T t) ∧ ¬ ∃ t p, o = .stringIter t p)) → A'.heap[k]? = some o
theorem It9.tr {T : TypeId → Prop} {B B' : Nat} {A A' : World} (h : It9 T B A A') (hB : B' ≤ B) : Tr7 T B' A A' :=
  ⟨h.os, h.tape, h.output, h.size, fun k o hk ho => h.kept k o hk (ho.elim (fun q => .inl (by omega)) (fun ⟨cs, t, fz, e, hn⟩ => .inr ⟨fun ⟨cs', t', fz', e', ht⟩ => (by rw [e] at e'; cases e'; exact hn ht), fun ⟨_, _, e'⟩ => (by rw [e] at e'; cases e')⟩))⟩
theorem It9.of_below {T : TypeId → Prop} {B : Nat} {A A' : World} (h : Below A.heap.size A A') : It9 T B A A' :=
  ⟨h.os, h.tape, h.output, h.size, fun k o hk _ => (h.block k (Array.getElem?_eq_some_iff.1 hk).1).trans hk⟩
theorem It9.trans {T : TypeId → Prop} {B : Nat} {X Y Z : World} (h : It9 T B X Y) (k : It9 T B Y Z) : It9 T B X Z :=
  ⟨k.os.trans h.os, k.tape.trans h.tape, k.output.trans h.output, Nat.le_trans h.size k.size, fun i o hi ho => k.kept i o (h.kept i o hi ho) ho⟩
theorem It9.mono {T T' : TypeId → Prop} {B B' : Nat} {A A' : World} (h : It9 T B A A') (hT : ∀ t, T t → T' t) (hB : B' ≤ B) : It9 T' B' A A' :=
  ⟨h.os, h.tape, h.output, h.size, fun k o hk ho => h.kept k o hk (ho.elim (fun q => .inl (by omega)) (fun q => .inr ⟨fun ⟨cs, t, fz, e, ht⟩ => q.1 ⟨cs, t, fz, e, hT t ht⟩, q.2⟩))⟩
theorem It7.nine {T : TypeId → Prop} {B : Nat} {A A' : World} (h : It7 T B A A') : It9 T B A A' :=
  ⟨h.os, h.tape, h.output, h.size, fun k o hk ho => h.kept k o hk (ho.imp id fun q => q.1)⟩
theorem Tr7.low {T : TypeId → Prop} {B B' : Nat} {A A' : World} (h : Tr7 T B A A') (hB : B' ≤ B) : Tr7 T B' A A' :=
  ⟨h.os, h.tape, h.output, h.size, fun k o hk ho => h.kept k o hk (ho.imp (fun q => by omega) id)⟩
/-- What is no cells, from C on, is as it was. -/
def NcK (C : Nat) (A A' : World) : Prop := A.heap.size ≤ A'.heap.size ∧ ∀ (k : Nat) (o : Obj), C ≤ k → A.heap[k]? = some o → o.isCells = false → A'.heap[k]? = some o
theorem yieldAt_mono {F : Fence} {m : Nat} {P : Program} {l : Nat} {args : Array Value} {W : World} {R R' : Ending → World → Prop} (h : YieldAt F m P l args W R) (hr : ∀ e w', R e w' → R' e w') : YieldAt F m P l args W R' := by
  obtain ⟨fn, tm, asg, bo, hy, hR⟩ := h
  exact ⟨fn, tm, asg, bo, hy, hR.mono hr⟩
/-- The contract of a function to be ranged over, as SeqG, where it may go over a text of its own. -/
def SeqG9 {α : Type} (F : Fence) (n : Nat) (P : Program) (g : Nat) (lb : Array Value) (encs : α → Array Value) (T : TypeId → Prop)
    (G : List α → α → World → Prop) (Kp : Nat → List α → α → World → World → Prop) (S : List α → Prop) (w0 : World) : Prop :=
  ∀ (l : Nat) (J Jx : List α → World → Prop) (W : World), Below w0.heap.size w0 W →
    (∀ s A A', J s A → Tr7 T W.heap.size A A' → J s A') → (∀ s A A', Jx s A → Tr7 T W.heap.size A A' → Jx s A') →
    (∀ pre x W1, J pre W1 → G pre x W1 → YieldAt F (n - 1) P l (encs x) W1 fun e W' =>
      (e = .returned (.bool true) ∧ J (pre ++ [x]) W' ∧ Kp W.heap.size pre x W1 W' ∧ NcK W.heap.size W1 W') ∨ (e = .returned (.bool false) ∧ Jx (pre ++ [x]) W' ∧ NcK W.heap.size W1 W')) →
    J [] W →
    CallsIn F n P g (#[.func (.yield l) #[] #[]] ++ lb) W fun e W' => (∃ v, e = .returned v) ∧ ((∃ xs, S xs ∧ J xs W') ∨ (∃ pre, Jx pre W'))
theorem SeqG.nine {α : Type} {F : Fence} {n : Nat} {P : Program} {g : Nat} {lb : Array Value} {encs : α → Array Value} {T : TypeId → Prop} {G : List α → α → World → Prop} {Kp : List α → α → World → World → Prop} {S : List α → Prop} {w0 : World}
    (h : SeqG F n P g lb encs T G Kp S w0) : SeqG9 F n P g lb encs T G (fun _ => Kp) S w0 := fun l J Jx W hb hJ hJx hY h0 => h l J Jx W hb (fun s A A' a k => hJ s A A' a (k.tr (Nat.le_refl _))) (fun s A A' a k => hJx s A A' a (k.tr (Nat.le_refl _))) (fun pre x W1 a b => yieldAt_mono (hY pre x W1 a b) fun e w' h => h.imp (fun h => ⟨h.1, h.2.1, h.2.2.1⟩) (fun h => ⟨h.1, h.2.1⟩)) h0
theorem SeqG9.inRound {α : Type} {F : Fence} {n : Nat} {P : Program} {g : Nat} {lb : Array Value} {encs : α → Array Value} {T : TypeId → Prop} {G : List α → α → World → Prop} {Kp : Nat → List α → α → World → World → Prop} {S : List α → Prop} {w0 : World} (l : Nat)
    (h : SeqG9 F n P g lb encs T G Kp S w0) : SeqG9 (F.inRound l) n P g lb encs T G Kp S w0 := h
variable {F : Fence} {n : Nat} {P : Program}
theorem wpIn_rangeFunc_GA {α : Type} {g : Operand} {ps : Array Tmp} {assign body : Code} {Q : Exit → Act → World → Prop} {a : Act} {w : World}
    (hro : F.round = none) (h1 : 1 ≤ n) {gf : Nat} {lb : Array Value} (hg : a.eval g = .func (.func gf) #[] lb) (hFg : F.fn gf) (eg : ∀ args w, (callFunc gf args).run P w = .ok (.enter gf args) w)
    {encs : α → Array Value} {T : TypeId → Prop} {G : List α → α → World → Prop} {Kp : Nat → List α → α → World → World → Prop} {S : List α → Prop} {w0 : World}
    (hseq : SeqG9 F (n - 1) P gf lb encs T G Kp S w0) (hb0 : Below w0.heap.size w0 w) (hps : ∀ x, (encs x).size = ps.size)
    (hG : ∀ pre x A A', G pre x A → Bk9 w.heap.size (w.heap.size + 2) A A' → G pre x A')
    (hK : ∀ pre x A A' B B', Bk9 w.heap.size (w.heap.size + 2) A A' → Kp (w.heap.size + 2) pre x A' B → Bk9 w.heap.size (w.heap.size + 2) B B' → Kp (w.heap.size + 2) pre x A B')
    (I : List α → World → Prop) (Ix : Code → List α → World → Prop)
    (hI : ∀ s A A', I s A → Tr7 T w.heap.size A A' → I s A') (hIx : ∀ c s A A', Ix c s A → Tr7 T w.heap.size A A' → Ix c s A') (h0 : I [] w)
    (Ax : List α → α → Act → World → Prop) (hAx : ∀ pre x a' A A', Ax pre x a' A → Bk9 w.heap.size (w.heap.size + 2) A A' → Ax pre x a' A')
    (hassign : ∀ (l : Nat) (pre : List α) (x : α) (W : World) (K : Act → World → Prop), I pre W → G pre x W → (∀ a' W', Below W.heap.size W W' → Ax pre x a' W' → K a' W') →
      assign.wpIn (F.inRound l) (n - 1 - 1) P (Exit.then K (fun _ _ _ => False)) { tmps := (ps.zip (encs x)).foldl (fun t (p, v) => t.setIfInBounds p v) a.tmps, defers := [] } W)
    (hbody : ∀ (l : Nat) (pre : List α) (x : α) (a' : Act) (W : World), w.heap.size ≤ l → (∃ r, W.heap[l]? = some (.loop r)) → I pre W → G pre x W → Ax pre x a' W → body.wpIn (F.inRound l) (n - 1 - 1) P (gPost w.heap.size (Kp (w.heap.size + 2)) I Ix pre x W) a' W)
    (hdone : ∀ (D : Nat) (xs : List α) (W : World), w.heap.size ≤ D → S xs → I xs W → W.heap[D]? = some (.deferred (some [])) → Q .normal { a with defers := { target := .collected D, args := #[] } :: a.defers } W)
    (hstop : ∀ (D : Nat) (c : Code) (pre : List α) (W : World), w.heap.size ≤ D → Ix c pre W → W.heap[D]? = some (.deferred (some [])) → c.wpIn F n P Q { a with defers := { target := .collected D, args := #[] } :: a.defers } W) :
    (Code.rangeFunc g ps assign body).wpIn F n P Q a w := by
  refine wpIn_rangeFunc fun fn hfn => ?_
  rw [hro]
  obtain ⟨rc, hrc⟩ : ∃ rc : LoopState → Option Code → Loop, ∀ s p, rc s p = { state := s, pending := p, fn, tmps := a.tmps, params := ps, assign, body, defers := w.heap.size } := ⟨_, fun _ _ => rfl⟩
  -- the record and the block for deferred calls
  obtain ⟨L, hL⟩ : ∃ L : Option Obj → World → Prop, ∀ o W, L o W = (W.heap[w.heap.size + 1]? = o ∧ W.heap[w.heap.size]? = some (.deferred (some []))) := ⟨_, fun _ _ => rfl⟩
  obtain ⟨W1, hW1⟩ : ∃ W1, (w.alloc (.deferred (some []))).alloc (.loop (rc .ready none)) = W1 := ⟨_, rfl⟩
  have bk1 : Bk9 w.heap.size (w.heap.size + 2) w W1 := by rw [← hW1]; exact (Bk9.alloc _ _ _ _).trans (Bk9.alloc _ _ _ _)
  have hL1 : L (some (.loop (rc .ready none))) W1 := by
    rw [hL, ← hW1]
    have e := World.alloc_heap_new (w.alloc (.deferred (some []))) (.loop (rc .ready none))
    rw [World.size_alloc] at e
    exact ⟨e, (Below.heap_alloc _ _ _ (by simp)).trans (World.alloc_heap_new w _)⟩
  have put : ∀ (o : Obj) (r : Loop) (W : World), L (some (.loop r)) W → L (some o) (W.putObj (w.heap.size + 1) o) ∧ Bk9 w.heap.size (w.heap.size + 2) W (W.putObj (w.heap.size + 1) o) := fun o r W h => by
    rw [hL] at h ⊢
    exact ⟨⟨World.putObj_heap_same (Array.getElem?_eq_some_iff.1 h.1).1, (World.putObj_heap_other (by omega)).trans h.2⟩, Bk9.put _ (by omega) (by omega) h.1⟩
  have hlt1 : w.heap.size + 1 < W1.heap.size := by
    have := hL1
    rw [hL] at this
    exact (Array.getElem?_eq_some_iff.1 this.1).1
  have trL : ∀ (r : Loop) (A A' : World), L (some (.loop r)) A → Tr7 T W1.heap.size A A' → L (some (.loop r)) A' := fun r A A' h k => by
    rw [hL] at h ⊢
    exact ⟨k.kept _ _ h.1 (.inl hlt1), k.kept _ _ h.2 (.inl (by omega))⟩
  have hz : w.heap.size ≤ W1.heap.size := bk1.size
  have hzz : W1.heap.size = w.heap.size + 2 := by rw [← hW1]; simp [World.size_alloc]
  refine ⟨w.heap.size + 1, [{ target := .collected w.heap.size, args := #[] }], W1, { target := .fn (.func gf) lb, args := #[.func (.yield (w.heap.size + 1)) #[] #[]] }, W1, gf,
    #[.func (.yield (w.heap.size + 1)) #[] #[]] ++ lb, W1, ?_, ?_, ?_, ?_, fun _ => h1, ?_⟩
  · rw [← hW1, hrc]; exact run_enterLoop_outer _ _ _ _ _
  · simp only [resolve, hg]
    simp [go_sem]
  · intro f' hf'; simp [Target.leads] at hf'; subst hf'; exact hFg
  · simp [invoke, go_sem, eg]
  · refine (hseq (w.heap.size + 1) (fun pre W => I pre W ∧ L (some (.loop (rc .ready none))) W) (fun pre W => ∃ c, Ix c pre W ∧ L (some (.loop (rc .done (some c)))) W) W1
      (hb0.trans ((Tr7.below (bk1.tr (T := T)) (Nat.le_refl _)).mono hb0.size))
      (fun s A A' h k => ⟨hI s A A' h.1 (k.low hz), trL _ _ _ h.2 k⟩) (fun s A A' ⟨c, h, h'⟩ k => ⟨c, hIx c s A A' h (k.low hz), trL _ _ _ h' k⟩) ?_ ⟨hI _ _ _ h0 bk1.tr, hL1⟩).mono ?_
    · rw [hzz]
      rintro pre x W ⟨hi, hl⟩ hg
      have hlp := (show L (some (.loop (rc .ready none))) W from hl)
      rw [hL] at hlp
      have hy := run_yield (P := P) (args := encs x) hlp.1 (by rw [hrc]; exact hps x)
      rw [hrc] at hy
      refine ⟨fn, _, assign, body, hy, roundIn_of_wpIn hfn (hassign _ pre x W _ hi hg fun a' Wa hba hax => ?_)⟩
      have bka : Bk9 w.heap.size (w.heap.size + 2) W Wa := Bk9.of_below hba
      have la : L (some (.loop (rc .ready none))) Wa := by
        rw [hL]
        exact ⟨(hba.block _ (Array.getElem?_eq_some_iff.1 hlp.1).1).trans hlp.1, (hba.block _ (Array.getElem?_eq_some_iff.1 hlp.2).1).trans hlp.2⟩
      obtain ⟨q1, q2⟩ := put (.loop (rc .busy none)) _ Wa la
      have hla := la
      rw [hL] at hla
      have q02 := bka.trans q2
      refine ⟨_, run_beginRound hla.1 (by rw [hrc]), ?_⟩
      have eb : ({ rc .ready none with state := LoopState.busy } : Loop) = rc .busy none := by rw [hrc, hrc]
      rw [eb]
      have hq := q1
      rw [hL] at hq
      refine wpIn_mono (hbody _ pre x a' _ (by omega) ⟨_, hq.1⟩ (hI _ _ _ hi q02.tr) (hG _ _ _ _ hg q02) (hAx _ _ _ _ _ hax q2)) ?_
      clear hq hla hy
      have fin : ∀ (jump : Option Code) (W3 : World), KeepsFrom w.heap.size (Wa.putObj (w.heap.size + 1) (.loop (rc .busy none))) W3 →
          (Instr.endRound (w.heap.size + 1) jump).run P W3 = .ok (.bool jump.isNone) (W3.putObj (w.heap.size + 1) (.loop (rc (if jump.isNone then .ready else .done) jump))) ∧
          L (some (.loop (rc (if jump.isNone then .ready else .done) jump))) (W3.putObj (w.heap.size + 1) (.loop (rc (if jump.isNone then .ready else .done) jump))) ∧
          Bk9 w.heap.size (w.heap.size + 2) W3 (W3.putObj (w.heap.size + 1) (.loop (rc (if jump.isNone then .ready else .done) jump))) := fun jump W3 k3 => by
        have l3 : L (some (.loop (rc .busy none))) W3 := by
          rw [hL] at q1 ⊢
          exact ⟨k3.same _ _ (by omega) q1.1 rfl, k3.same _ _ (Nat.le_refl _) q1.2 rfl⟩
        obtain ⟨p1, p2⟩ := put (.loop (rc (if jump.isNone then .ready else .done) jump)) _ W3 l3
        rw [hL] at l3
        have e := run_endRound (P := P) jump l3.1
        rw [hrc] at e
        exact ⟨by rw [hrc]; exact e, p1, p2⟩
      have nck : ∀ W3 W4, KeepsFrom w.heap.size (Wa.putObj (w.heap.size + 1) (.loop (rc .busy none))) W3 → Bk9 w.heap.size (w.heap.size + 2) W3 W4 → NcK (w.heap.size + 2) W W4 := fun W3 W4 k3 k4 =>
        ⟨Nat.le_trans q02.size (Nat.le_trans k3.size k4.size), fun k o hk ho hc => k4.kept k o (k3.same k o (by omega) (q02.kept k o ho (.inr (.inl hk))) hc) (.inr (.inl hk))⟩
      rintro e a3 W3 hp
      cases e with
      | normal =>
        obtain ⟨k3, kp, hi3⟩ := hp
        obtain ⟨r1, r2, r3⟩ := fin none W3 k3
        exact ⟨_, _, r1, .inl ⟨rfl, ⟨hI _ _ _ hi3 r3.tr, r2⟩, hK _ _ _ _ _ _ q02 kp r3, nck _ _ k3 r3⟩⟩
      | ret =>
        obtain ⟨k3, hi3⟩ := hp
        obtain ⟨r1, r2, r3⟩ := fin (some .ret) W3 k3
        exact ⟨_, _, r1, .inr ⟨rfl, ⟨_, hIx _ _ _ _ hi3 r3.tr, r2⟩, nck _ _ k3 r3⟩⟩
      | exit id =>
        obtain ⟨k3, hi3⟩ := hp
        obtain ⟨r1, r2, r3⟩ := fin (some (.exit id)) W3 k3
        exact ⟨_, _, r1, .inr ⟨rfl, ⟨_, hIx _ _ _ _ hi3 r3.tr, r2⟩, nck _ _ k3 r3⟩⟩
      | goto t =>
        obtain ⟨k3, hi3⟩ := hp
        obtain ⟨r1, r2, r3⟩ := fin (some (.goto t)) W3 k3
        exact ⟨_, _, r1, .inr ⟨rfl, ⟨_, hIx _ _ _ _ hi3 r3.tr, r2⟩, nck _ _ k3 r3⟩⟩
      | panic ch => exact hp.elim
      | outgrown => exact hp.elim
    · rintro e W2 ⟨⟨v, rfl⟩, (⟨xs, hS, hi, hl⟩ | ⟨pre, c, hi, hl⟩)⟩
      · obtain ⟨p1, p2⟩ := put (.loop (rc .exhausted none)) _ W2 hl
        rw [hL] at hl p1
        have r := run_endLoop (P := P) hl.1 (by rw [hrc]; simp)
        rw [hrc] at r
        rw [hrc] at p1 p2
        exact ⟨none, _, r, hdone _ xs _ (Nat.le_refl _) hS (hI _ _ _ hi p2.tr) p1.2⟩
      · obtain ⟨p1, p2⟩ := put (.loop (rc .exhausted (some c))) _ W2 hl
        rw [hL] at hl p1
        have r := run_endLoop (P := P) hl.1 (by rw [hrc]; simp)
        rw [hrc] at r
        rw [hrc] at p1 p2
        exact ⟨some c, _, r, hstop _ c pre _ (Nat.le_refl _) (hIx _ _ _ _ hi p2.tr) p1.2⟩

theorem wpIn_rangeFunc_GN {α : Type} {g : Operand} {ps : Array Tmp} {assign body : Code} {Q : Exit → Act → World → Prop} {a : Act} {w : World}
    {l₀ : Nat} {r₀ : Loop} (hro : F.round = some l₀) (hl₀ : w.heap[l₀]? = some (.loop r₀)) (h1 : 1 ≤ n) {gf : Nat} {lb : Array Value} (hg : a.eval g = .func (.func gf) #[] lb) (hFg : F.fn gf) (eg : ∀ args w, (callFunc gf args).run P w = .ok (.enter gf args) w)
    {encs : α → Array Value} {T : TypeId → Prop} {G : List α → α → World → Prop} {Kp : Nat → List α → α → World → World → Prop} {S : List α → Prop} {w0 : World}
    (hseq : SeqG9 F (n - 1) P gf lb encs T G Kp S w0) (hb0 : Below w0.heap.size w0 w) (hps : ∀ x, (encs x).size = ps.size)
    (hG : ∀ pre x A A', G pre x A → Bk9 w.heap.size (w.heap.size + 1) A A' → G pre x A')
    (hK : ∀ pre x A A' B B', Bk9 w.heap.size (w.heap.size + 1) A A' → Kp (w.heap.size + 1) pre x A' B → Bk9 w.heap.size (w.heap.size + 1) B B' → Kp (w.heap.size + 1) pre x A B')
    (I : List α → World → Prop) (Ix : Code → List α → World → Prop)
    (hI : ∀ s A A', I s A → Tr7 T w.heap.size A A' → I s A') (hIx : ∀ c s A A', Ix c s A → Tr7 T w.heap.size A A' → Ix c s A') (h0 : I [] w)
    (Ax : List α → α → Act → World → Prop) (hAx : ∀ pre x a' A A', Ax pre x a' A → Bk9 w.heap.size (w.heap.size + 1) A A' → Ax pre x a' A')
    (hassign : ∀ (l : Nat) (pre : List α) (x : α) (W : World) (K : Act → World → Prop), I pre W → G pre x W → (∀ a' W', Below W.heap.size W W' → Ax pre x a' W' → K a' W') →
      assign.wpIn (F.inRound l) (n - 1 - 1) P (Exit.then K (fun _ _ _ => False)) { tmps := (ps.zip (encs x)).foldl (fun t (p, v) => t.setIfInBounds p v) a.tmps, defers := [] } W)
    (hbody : ∀ (l : Nat) (pre : List α) (x : α) (a' : Act) (W : World), w.heap.size ≤ l → (∃ r, W.heap[l]? = some (.loop r)) → I pre W → G pre x W → Ax pre x a' W → body.wpIn (F.inRound l) (n - 1 - 1) P (gPost w.heap.size (Kp (w.heap.size + 1)) I Ix pre x W) a' W)
    (hdone : ∀ (xs : List α) (W : World), S xs → I xs W → Q .normal a W)
    (hstop : ∀ (c : Code) (pre : List α) (W : World), Ix c pre W → c.wpIn F n P Q a W) :
    (Code.rangeFunc g ps assign body).wpIn F n P Q a w := by
  refine wpIn_rangeFunc fun fn hfn => ?_
  rw [hro]
  obtain ⟨rc, hrc⟩ : ∃ rc : LoopState → Option Code → Loop, ∀ s p, rc s p = { state := s, pending := p, fn, tmps := a.tmps, params := ps, assign, body, defers := r₀.defers } := ⟨_, fun _ _ => rfl⟩
  -- the record and the block for deferred calls
  obtain ⟨L, hL⟩ : ∃ L : Option Obj → World → Prop, ∀ o W, L o W = (W.heap[w.heap.size]? = o) := ⟨_, fun _ _ => rfl⟩
  obtain ⟨W1, hW1⟩ : ∃ W1, w.alloc (.loop (rc .ready none)) = W1 := ⟨_, rfl⟩
  have bk1 : Bk9 w.heap.size (w.heap.size + 1) w W1 := by rw [← hW1]; exact Bk9.alloc _ _ _ _
  have hL1 : L (some (.loop (rc .ready none))) W1 := by
    rw [hL, ← hW1]
    exact World.alloc_heap_new w _
  have put : ∀ (o : Obj) (r : Loop) (W : World), L (some (.loop r)) W → L (some o) (W.putObj w.heap.size o) ∧ Bk9 w.heap.size (w.heap.size + 1) W (W.putObj w.heap.size o) := fun o r W h => by
    rw [hL] at h ⊢
    exact ⟨World.putObj_heap_same (Array.getElem?_eq_some_iff.1 h).1, Bk9.put _ (Nat.le_refl _) (by omega) h⟩
  have hlt1 : w.heap.size < W1.heap.size := by
    have := hL1
    rw [hL] at this
    exact (Array.getElem?_eq_some_iff.1 this).1
  have trL : ∀ (r : Loop) (A A' : World), L (some (.loop r)) A → Tr7 T W1.heap.size A A' → L (some (.loop r)) A' := fun r A A' h k => by
    rw [hL] at h ⊢
    exact k.kept _ _ h (.inl hlt1)
  have hz : w.heap.size ≤ W1.heap.size := bk1.size
  have hzz : W1.heap.size = w.heap.size + 1 := by rw [← hW1]; simp [World.size_alloc]
  refine ⟨w.heap.size, [], W1, { target := .fn (.func gf) lb, args := #[.func (.yield w.heap.size) #[] #[]] }, W1, gf,
    #[.func (.yield w.heap.size) #[] #[]] ++ lb, W1, ?_, ?_, ?_, ?_, fun _ => h1, ?_⟩
  · rw [← hW1, hrc]; exact run_enterLoop_inner hl₀ _ _ _ _ _
  · simp only [resolve, hg]
    simp [go_sem]
  · intro f' hf'; simp [Target.leads] at hf'; subst hf'; exact hFg
  · simp [invoke, go_sem, eg]
  · refine (hseq w.heap.size (fun pre W => I pre W ∧ L (some (.loop (rc .ready none))) W) (fun pre W => ∃ c, Ix c pre W ∧ L (some (.loop (rc .done (some c)))) W) W1
      (hb0.trans ((Tr7.below (bk1.tr (T := T)) (Nat.le_refl _)).mono hb0.size))
      (fun s A A' h k => ⟨hI s A A' h.1 (k.low hz), trL _ _ _ h.2 k⟩) (fun s A A' ⟨c, h, h'⟩ k => ⟨c, hIx c s A A' h (k.low hz), trL _ _ _ h' k⟩) ?_ ⟨hI _ _ _ h0 bk1.tr, hL1⟩).mono ?_
    · rw [hzz]
      rintro pre x W ⟨hi, hl⟩ hg
      have hlp := (show L (some (.loop (rc .ready none))) W from hl)
      rw [hL] at hlp
      have hy := run_yield (P := P) (args := encs x) hlp (by rw [hrc]; exact hps x)
      rw [hrc] at hy
      refine ⟨fn, _, assign, body, hy, roundIn_of_wpIn hfn (hassign _ pre x W _ hi hg fun a' Wa hba hax => ?_)⟩
      have bka : Bk9 w.heap.size (w.heap.size + 1) W Wa := Bk9.of_below hba
      have la : L (some (.loop (rc .ready none))) Wa := by
        rw [hL]
        exact (hba.block _ (Array.getElem?_eq_some_iff.1 hlp).1).trans hlp
      obtain ⟨q1, q2⟩ := put (.loop (rc .busy none)) _ Wa la
      have hla := la
      rw [hL] at hla
      have q02 := bka.trans q2
      refine ⟨_, run_beginRound hla (by rw [hrc]), ?_⟩
      have eb : ({ rc .ready none with state := LoopState.busy } : Loop) = rc .busy none := by rw [hrc, hrc]
      rw [eb]
      have hq := q1
      rw [hL] at hq
      refine wpIn_mono (hbody _ pre x a' _ (by omega) ⟨_, hq⟩ (hI _ _ _ hi q02.tr) (hG _ _ _ _ hg q02) (hAx _ _ _ _ _ hax q2)) ?_
      clear hq hla hy
      have fin : ∀ (jump : Option Code) (W3 : World), KeepsFrom w.heap.size (Wa.putObj w.heap.size (.loop (rc .busy none))) W3 →
          (Instr.endRound w.heap.size jump).run P W3 = .ok (.bool jump.isNone) (W3.putObj w.heap.size (.loop (rc (if jump.isNone then .ready else .done) jump))) ∧
          L (some (.loop (rc (if jump.isNone then .ready else .done) jump))) (W3.putObj w.heap.size (.loop (rc (if jump.isNone then .ready else .done) jump))) ∧
          Bk9 w.heap.size (w.heap.size + 1) W3 (W3.putObj w.heap.size (.loop (rc (if jump.isNone then .ready else .done) jump))) := fun jump W3 k3 => by
        have l3 : L (some (.loop (rc .busy none))) W3 := by
          rw [hL] at q1 ⊢
          exact k3.same _ _ (Nat.le_refl _) q1 rfl
        obtain ⟨p1, p2⟩ := put (.loop (rc (if jump.isNone then .ready else .done) jump)) _ W3 l3
        rw [hL] at l3
        have e := run_endRound (P := P) jump l3
        rw [hrc] at e
        exact ⟨by rw [hrc]; exact e, p1, p2⟩
      have nck : ∀ W3 W4, KeepsFrom w.heap.size (Wa.putObj w.heap.size (.loop (rc .busy none))) W3 → Bk9 w.heap.size (w.heap.size + 1) W3 W4 → NcK (w.heap.size + 1) W W4 := fun W3 W4 k3 k4 =>
        ⟨Nat.le_trans q02.size (Nat.le_trans k3.size k4.size), fun k o hk ho hc => k4.kept k o (k3.same k o (by omega) (q02.kept k o ho (.inr (.inl hk))) hc) (.inr (.inl hk))⟩
      rintro e a3 W3 hp
      cases e with
      | normal =>
        obtain ⟨k3, kp, hi3⟩ := hp
        obtain ⟨r1, r2, r3⟩ := fin none W3 k3
        exact ⟨_, _, r1, .inl ⟨rfl, ⟨hI _ _ _ hi3 r3.tr, r2⟩, hK _ _ _ _ _ _ q02 kp r3, nck _ _ k3 r3⟩⟩
      | ret =>
        obtain ⟨k3, hi3⟩ := hp
        obtain ⟨r1, r2, r3⟩ := fin (some .ret) W3 k3
        exact ⟨_, _, r1, .inr ⟨rfl, ⟨_, hIx _ _ _ _ hi3 r3.tr, r2⟩, nck _ _ k3 r3⟩⟩
      | exit id =>
        obtain ⟨k3, hi3⟩ := hp
        obtain ⟨r1, r2, r3⟩ := fin (some (.exit id)) W3 k3
        exact ⟨_, _, r1, .inr ⟨rfl, ⟨_, hIx _ _ _ _ hi3 r3.tr, r2⟩, nck _ _ k3 r3⟩⟩
      | goto t =>
        obtain ⟨k3, hi3⟩ := hp
        obtain ⟨r1, r2, r3⟩ := fin (some (.goto t)) W3 k3
        exact ⟨_, _, r1, .inr ⟨rfl, ⟨_, hIx _ _ _ _ hi3 r3.tr, r2⟩, nck _ _ k3 r3⟩⟩
      | panic ch => exact hp.elim
      | outgrown => exact hp.elim
    · rintro e W2 ⟨⟨v, rfl⟩, (⟨xs, hS, hi, hl⟩ | ⟨pre, c, hi, hl⟩)⟩
      · obtain ⟨p1, p2⟩ := put (.loop (rc .exhausted none)) _ W2 hl
        rw [hL] at hl p1
        have r := run_endLoop (P := P) hl (by rw [hrc]; simp)
        rw [hrc] at r
        rw [hrc] at p1 p2
        exact ⟨none, _, r, hdone xs _ hS (hI _ _ _ hi p2.tr)⟩
      · obtain ⟨p1, p2⟩ := put (.loop (rc .exhausted (some c))) _ W2 hl
        rw [hL] at hl p1
        have r := run_endLoop (P := P) hl (by rw [hrc]; simp)
        rw [hrc] at r
        rw [hrc] at p1 p2
        exact ⟨some c, _, r, hstop c pre _ (hIx _ _ _ _ hi p2.tr)⟩
end Go.Proofs.YthfpmhnnjjikcaaGreatDoor
