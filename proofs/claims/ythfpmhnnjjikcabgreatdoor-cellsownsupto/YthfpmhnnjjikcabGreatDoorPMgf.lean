/- What cells.Each's function hands over, for whatever loop body. cells.List of a document. Writes into the lists of cells that are the call's own: what they leave. cells.Check; the document's Check of a cell. The document's deltas: Canonical: the canonical list of operations. vellumhand.Make, Is; vellumlaw06's gone, text, large, lives. vellumlaw06.lives answers true. Canonical lists of operations in order are in order. The canonical list while it is made: sizes. The document's deltas: Canonical. The document's op, Doc, Of, SameList of layer 9. -/
import Derived.Test.YthfpmhnnjjikcabGreatDoorPMge
import Derived.Test.YthfpmhnnjjikcabGreatDoorPMgd
import Derived.Test.YthfpmhnnjjikcabGreatDoorPMgc
import Derived.Test.YthfpmhnnjjikcabGreatDoorPQb
import Derived.Test.YthfpmhnnjjikcabGreatDoorPMga
import Derived.Test.YthfpmhnnjjikcabGreatDoorPOw
import Derived.Deep.RegionHeld3

/- What cells.Each's function hands over, for whatever loop body. -/
namespace Go.Proofs.YthfpmhnnjjikcabGreatDoor
open Go Go.RowKit Go.Lib Go.Shelf
set_option linter.unusedVariables false
attribute [local go_sem] Oper.semAt_some
theorem roundIn_any9 {n m l l1 l2 : Nat} {P : Program} {f : FuncId} {tmps : Array Value} {assign body : Code} {w : World} {R : Ending → World → Prop} (h : RoundIn Fence.wide n P l f tmps assign body w R) : RoundIn ((Fence.wide.inRound l1).inRound l2) m P l f tmps assign body w R :=
  ⟨h.1, fun c cs _ => h.2 c cs (fun _ h => (by cases h))⟩
/-- A cell that is told, with its number. -/
abbrev EZ : Type := Nat × CZ
abbrev encE9 (x : EZ) : Array Value := #[.int .i64 x.1, ceV x.2.1]
def GE9 (L : List C5) (B0 : Nat) (pre : List EZ) (x : EZ) (W : World) : Prop := x.1 = pre.length ∧ ∃ e, L[pre.length]? = some e ∧ x.2.1.1 = e.1 ∧ x.2.1.2.1 = e.2.1 ∧ x.2.1.2.2.1 = e.2.2.1 ∧ InA W x.2.2.1 x.2.2.2 (slV x.2.1.2.2.2) e.2.2.2 ∧ B0 ≤ x.2.2.1 ∧ x.2.2.2 ≤ W.heap.size ∧ ∀ y ∈ pre, y.2.2.2 ≤ x.2.2.1
/-- A document's cells; none of what is no document. -/
def docC9 (E : List Op5) : List C5 := if sumB E = 0 then cellsL E else []
theorem docC9_yes {E : List Op5} (h : sumB E = 0) : docC9 E = cellsL E := if_pos h
/-- What a round keeps. -/
structure KE9 (B0 : Nat) (pre : List EZ) (x : EZ) (A A' : World) : Prop where
  size : A.heap.size ≤ A'.heap.size
  own : ∀ (k : Nat) (cs : Array Value) (t : TypeId), A.heap[k]? = some (.cells cs t (0, 0)) → (t = 184 ∨ t = 189 ∨ t = 102 ∨ (B0 ≤ k ∧ t ≠ 39 ∧ t ≠ 45)) → A'.heap[k]? = some (.cells cs t (0, 0))
  ite : ∀ (k : Nat) (t : ByteArray) (p : Nat), A.heap[k]? = some (.stringIter t p) → A'.heap[k]? = some (.stringIter t p)
  att : ∀ (k : Nat) (cs : Array Value), A.heap[k]? = some (.cells cs 45 (0, 0)) → (k < x.2.2.1 ∨ x.2.2.2 ≤ k) → A'.heap[k]? = some (.cells cs 45 (0, 0))
theorem GE9.bk {L : List C5} {B0 B C : Nat} {pre : List EZ} {x : EZ} {A A' : World} (h : GE9 L B0 pre x A) (k : Bk9 B C A A') : GE9 L B0 pre x A' := by
  obtain ⟨h0, e, h1, h2, h3, h4, h5, h6, h7, h8⟩ := h
  exact ⟨h0, e, h1, h2, h3, h4, ina_same h5 fun j cs hj _ _ => k.cells hj, h6, Nat.le_trans h7 k.size, h8⟩
theorem KE9.bk {B0 B Z : Nat} {pre : List EZ} {x : EZ} {A A' C C' : World} (k1 : Bk9 B Z A A') (h : KE9 B0 pre x A' C) (k2 : Bk9 B Z C C') : KE9 B0 pre x A C' :=
  ⟨Nat.le_trans k1.size (Nat.le_trans h.size k2.size), fun k cs t hk ht => k2.cells (h.own k cs t (k1.cells hk) ht), fun k t p hk => k2.ite (h.ite k t p (k1.ite hk)), fun k cs hk ho => k2.cells (h.att k cs (k1.cells hk) ho)⟩
/-- What the two loops keep: the yield function in its box, the number in its. -/
structure St9 (l F I : Nat) (J : List EZ → World → Prop) (xs : List EZ) (W : World) : Prop where
  j : J xs W
  f : W.heap[F]? = some (.cells #[.func (.yield l) #[] #[]] 146 (0, 0))
  i : W.heap[I]? = some (.cells #[.int .i64 xs.length] 3 (0, 0))
theorem KZ.step9 {pre : List PZ} {x : PZ} {A B C : World} (h : KZ pre x A B) (hs : B.heap.size ≤ C.heap.size) (hp : ∀ (k : Nat) (cs : Array Value), B.heap[k]? = some (.cells cs 102 (0, 0)) → C.heap[k]? = some (.cells cs 102 (0, 0))) (ha : ∀ (k : Nat) (cs : Array Value), k < A.heap.size → B.heap[k]? = some (.cells cs 45 (0, 0)) → C.heap[k]? = some (.cells cs 45 (0, 0))) : KZ pre x A C :=
  ⟨Nat.le_trans h.size hs, fun k cs hk => hp k cs (h.pie k cs hk), fun k cs hk ho => ha k cs (Array.getElem?_eq_some_iff.1 hk).1 (h.att k cs hk ho)⟩
theorem tr7_set9 {T : TypeId → Prop} {B I : Nat} {W : World} {cs : Array Value} {t : TypeId} (hI : W.heap[I]? = some (.cells cs t (0, 0))) (hB : B ≤ I) (ht : T t) (j : Nat) (u : Value) : Tr7 T B W (W.setCell ⟨I, j, none⟩ u) :=
  ⟨rfl, rfl, rfl, by simp, fun k o hk ho => by
    have hne : k ≠ I := fun e => by
      subst e; rw [hI] at hk; cases hk
      rcases ho with ho | ⟨_, _, _, e, hn⟩
      · omega
      · cases e; exact hn ht
    exact (Below.heap_setCell _ _ _ _ hne).trans hk⟩

theorem St9.tr {l F I B C : Nat} {J : List EZ → World → Prop} {xs : List EZ} {A A' : World} (h : St9 l F I J xs A) (hJ : ∀ q W1 W2, J q W1 → Tr7 (fun t => t = 3) C W1 W2 → J q W2) (k : Tr7 (fun _ => False) B A A') (hB : C ≤ B) (hFI : F < B ∧ I < B) : St9 l F I J xs A' :=
  ⟨hJ _ _ _ h.j (k.mono (fun _ h => h.elim) hB), k.kept _ _ h.f (.inl hFI.1), k.kept _ _ h.i (.inl hFI.2)⟩
theorem tr7_put9 {T : TypeId → Prop} {B D : Nat} {W : World} {o o' : Obj} (hK : W.heap[D]? = some o) (hB : B ≤ D) (ho : o.isCells = false := by rfl) : Tr7 T B W (W.putObj D o') :=
  ⟨rfl, rfl, rfl, by simp, fun k x hk hx => by
    have : k ≠ D := fun e => by
      subst e; rw [hK] at hk; cases hk
      rcases hx with hx | ⟨_, _, _, e, _⟩
      · omega
      · rw [e] at ho; cases ho
    exact (World.putObj_heap_other this).trans hk⟩
theorem doc_base9 {E : List Op5} (hg : ∀ o ∈ E, opE o = 0) (h : sumB E = 0) : ∀ o ∈ E, Ins o := fun o ho => by
  have hw : ∀ x ∈ E, Wel x := fun x hx => wel_of (hg x hx)
  obtain ⟨h1, _⟩ := mem_sums hw ho
  rw [h] at h1
  have hp := len5_pos (hg o ho)
  have hk := (hw o ho).kinds
  have h2 : o.k = 1 ∨ o.k = 2 := by
    unfold baseO at h1
    rcases hk with hk | hk | hk | hk
    · exact .inl hk
    · exact .inr hk
    · simp [hk] at h1; omega
    · simp [hk] at h1; omega
  rcases op_good (hg o ho) with ⟨h3, _⟩ | ⟨_, _, h3⟩ | ⟨_, _, h3⟩
  · exact h3
  · omega
  · omega
theorem cells_at9 {E : List Op5} {j k : Nat} {e : Op5} {c : C5} (he : E[j]? = some e) (hc : (cellsOf e)[k]? = some c) : (cellsL E)[(cellsL (E.take j)).length + k]? = some c := by
  have h1 : cellsL E = cellsL (E.take j) ++ (cellsOf e ++ cellsL (E.drop (j + 1))) := by
    obtain ⟨hj, rfl⟩ := List.getElem?_eq_some_iff.1 he
    conv => lhs; rw [← List.take_append_drop j E, List.drop_eq_getElem_cons hj]
    unfold cellsL
    rw [List.flatMap_append, List.flatMap_cons]
  rw [h1, List.getElem?_append_right (by omega), Nat.add_sub_cancel_left, List.getElem?_append_left (List.getElem?_eq_some_iff.1 hc).1]
  exact hc
theorem eachC_leave {n : Nat} (D : Nat) (W : World) (tmps : Array Value) {R1 R2 : World → Prop} (hK : W.heap[D]? = some (.deferred (some []))) (h : R1 (W.putObj D (.deferred none))) :
    bodyPostM Fence.wide n Tryz.prog Tryz.f88 (fun e w' => (∃ v, e = .returned v) ∧ (R1 w' ∨ R2 w')) Exit.normal { tmps := tmps, defers := [{ target := .collected D, args := #[] }] } W := by
  refine ⟨by simp, .inl ⟨_, _, rfl, run_takeDeferred hK, ?_⟩⟩
  exact ⟨_, results_none rfl _ _ _, ⟨_, rfl⟩, .inl h⟩
theorem eachC_leaveX {n : Nat} (D : Nat) (W : World) (tmps : Array Value) {R1 R2 : World → Prop} (hK : W.heap[D]? = some (.deferred (some []))) (h : R2 (W.putObj D (.deferred none))) :
    bodyPostM Fence.wide n Tryz.prog Tryz.f88 (fun e w' => (∃ v, e = .returned v) ∧ (R1 w' ∨ R2 w')) Exit.ret { tmps := tmps, defers := [{ target := .collected D, args := #[] }] } W := by
  refine ⟨by simp, .inl ⟨_, _, rfl, run_takeDeferred hK, ?_⟩⟩
  exact ⟨_, results_none rfl _ _ _, ⟨_, rfl⟩, .inr h⟩
set_option maxHeartbeats 8000000 in
set_option maxRecDepth 100000 in
theorem eachC_seq {B1 B2 : Nat} (E : List Op5) (w0 : World) (x : Nat) (hT : ∃ v, w0.cell? ⟨x, 0, none⟩ = some v ∧ DlE w0 B1 B2 v E) (m : Nat) (hbig : (cellsL E).length ≤ 1099511627776) (hm : m = if sumB E = 0 then (cellsL E).length else 0) (n : Nat) (hn : 12 ≤ n) :
    SeqG9 Fence.wide n Tryz.prog 88 #[.pointer (some ⟨x, 0, none⟩)] encE9 (fun t => t = 3) (GE9 (docC9 E) w0.heap.size) (fun _ => KE9 w0.heap.size) (fun xs => xs.length = m) w0 := fun l J Jx W hW hJ hJx hY h0 => by
  obtain ⟨v, hx, hd⟩ := hT
  obtain ⟨q, rfl⟩ : ∃ q, v = .pointer (some ⟨q, 0, none⟩) := by obtain ⟨q, _, _, e, _⟩ := hd.d; exact ⟨q, e⟩
  have bA : Below W.heap.size W (W.alloc (.cells #[.func (.yield l) #[] #[]] 146)) := (Below.refl _ _).alloc (Nat.le_refl _) _
  have hF0 := heap_alloc_new W (.cells #[.func (.yield l) #[] #[]] 146)
  obtain ⟨WA, hWA⟩ : ∃ WA, WA = W.alloc (.cells #[.func (.yield l) #[] #[]] 146) := ⟨_, rfl⟩
  rw [← hWA] at bA hF0
  have c0 : WA.cell? ⟨x, 0, none⟩ = some (.pointer (some ⟨q, 0, none⟩)) := ((hW.trans (bA.mono hW.size)).cell (lt_of_cell hx)).trans hx
  have hdA : DlE WA B1 B2 (.pointer (some ⟨q, 0, none⟩)) E := (hd.below hW).below bA
  have cD := doc8_any _ E WA hdA
  have HD : Hid (DlE WA B1 B2 (.pointer (some ⟨q, 0, none⟩)) E) := hdA
  have HJ : Hid (∀ q W1 W2, J q W1 → Tr7 (fun t => t = 3) W.heap.size W1 W2 → J q W2) := hJ
  have HX : Hid (∀ q W1 W2, Jx q W1 → Tr7 (fun t => t = 3) W.heap.size W1 W2 → Jx q W2) := hJx
  have HY : Hid (∀ pre x W1, J pre W1 → GE9 (docC9 E) w0.heap.size pre x W1 → YieldAt Fence.wide (n - 1) Tryz.prog l (encE9 x) W1 fun e W' =>
      (e = .returned (.bool true) ∧ J (pre ++ [x]) W' ∧ KE9 w0.heap.size pre x W1 W' ∧ NcK W.heap.size W1 W') ∨ (e = .returned (.bool false) ∧ Jx (pre ++ [x]) W' ∧ NcK W.heap.size W1 W')) := hY
  have HN : Hid (12 ≤ n ∧ w0.heap.size ≤ W.heap.size) := ⟨hn, hW.size⟩
  have HG : Hid ((cellsL E).length ≤ 1099511627776) := hbig
  have HA : Hid (Below W.heap.size W WA ∧ WA.heap[W.heap.size]? = some (.cells #[.func (.yield l) #[] #[]] 146 (0, 0)) ∧ J [] W) := ⟨bA, hF0, h0⟩
  obtain ⟨bb, hbb⟩ : ∃ bb, (sumB E == 0) = bb := ⟨_, rfl⟩
  rw [hbb] at cD
  have HB : Hid ((sumB E == 0) = bb ∧ m = if sumB E = 0 then (cellsL E).length else 0) := ⟨hbb, hm⟩
  clear hY hJ hJx hx hd hdA hW bA hF0 hbb hn h0 hm hbig
  refine callsIn_of_wp_marks Tryz.func88 rfl trivial ?_ rfl
  simp only [Tryz.ntmps88, List.size_toArray, List.length_cons, List.length_nil, Nat.reduceAdd, Nat.reduceSub, Array.replicate_succ, Array.replicate_zero, List.push_toArray, List.append_toArray, List.nil_append, List.cons_append]
  have c0l := c0
  rw [hWA] at c0l
  gi_wp2
  rw [← hWA]
  clear hWA c0l
  refine ⟨trivial, (fun _ => by have := HN.out; omega), (callsIn_wide.2 cD).mono ?_⟩
  rintro r w1 ⟨rfl, hb1⟩
  have c1 : w1.cell? ⟨x, 0, none⟩ = some (.pointer (some ⟨q, 0, none⟩)) := (hb1.cell (lt_of_cell c0)).trans c0
  have HA1 : Hid (Below W.heap.size W w1 ∧ w1.heap[W.heap.size]? = some (.cells #[.func (.yield l) #[] #[]] 146 (0, 0)) ∧ DlE w1 B1 B2 (.pointer (some ⟨q, 0, none⟩)) E) := ⟨HA.out.1.trans (hb1.mono HA.out.1.size), heap_below hb1 HA.out.2.1, HD.out.below hb1⟩
  clear cD c0 hb1 HD
  have HDC : Hid (bb = true → docC9 E = cellsL E) := fun h => docC9_yes (by have := HB.out.1; rw [h] at this; simpa using this)
  cases bb with
  | false =>
    have hJ1 : Hid (J [] w1) := HJ.out _ _ _ HA.out.2.2 (Tr7.of_below HA1.out.1)
    have hm0 : Hid (m = 0) := by
      have h1 := HB.out.1
      have h2 := HB.out.2
      rw [if_neg (by simpa using h1)] at h2
      exact h2
    gi_wp2
    exact ⟨_, results_none rfl _ _ _, ⟨_, rfl⟩, .inl ⟨[], by rw [hm0.out]; rfl, hJ1.out⟩⟩
  | true =>
    have bI : Below w1.heap.size w1 (w1.alloc (.cells #[.int .i64 0] 3)) := (Below.refl _ _).alloc (Nat.le_refl _) _
    have hI0 := heap_alloc_new w1 (.cells #[.int .i64 0] 3)
    have c2 : (w1.alloc (.cells #[.int .i64 0] 3)).cell? ⟨x, 0, none⟩ = some (.pointer (some ⟨q, 0, none⟩)) := (bI.cell (lt_of_cell c1)).trans c1
    have cE := each7_call (.pointer (some ⟨q, 0, none⟩)) E (w1.alloc (.cells #[.int .i64 0] 3)) (HA1.out.2.2.d.below bI)
    have HI0 : Hid (Below w1.heap.size w1 (w1.alloc (.cells #[.int .i64 0] 3)) ∧ (w1.alloc (.cells #[.int .i64 0] 3)).heap[w1.heap.size]? = some (.cells #[.int .i64 0] 3 (0, 0))) := ⟨bI, hI0⟩
    clear bI hI0
    gi_wp2
    refine ⟨trivial, (fun _ => by have := HN.out; omega), (callsIn_wide.2 cE).mono ?_⟩
    rintro r w2 ⟨y, rfl, hy, -, hb2⟩
    have hb12 : Below w1.heap.size w1 w2 := HI0.out.1.trans (hb2.mono HI0.out.1.size)
    have hdoc := doc_base9 HA1.out.2.2.g (by simpa using HB.out.1)
    have H2 : Hid (St9 l W.heap.size w1.heap.size J [] w2 ∧ BoxD w2 y B1 B2 E ∧ W.heap.size < w1.heap.size ∧ w1.heap.size < w2.heap.size) := by
      have h1 := (Array.getElem?_eq_some_iff.1 HA1.out.2.1).1
      have h2 := heap_below hb2 HI0.out.2
      exact ⟨⟨HJ.out _ _ _ HA.out.2.2 (Tr7.of_below (HA1.out.1.trans (hb12.mono HA1.out.1.size))), heap_below hb12 HA1.out.2.1, h2⟩, hy, h1, (Array.getElem?_eq_some_iff.1 h2).1⟩
    have HE : Hid ((∀ o ∈ E, opE o = 0) ∧ (∀ o ∈ E, o.A.length ≤ 2097152) ∧ E.length ≤ 4194304 ∧ (∀ o ∈ E, Ins o) ∧ m = (cellsL E).length) := ⟨HA1.out.2.2.g, HA1.out.2.2.n, Nat.le_trans HA1.out.2.2.len (by decide), hdoc, by have h2 := HB.out.2; rwa [if_pos (by simpa using HB.out.1)] at h2⟩
    clear cE hy hb2 hb12 HI0 hdoc c1 c2 HA1 HB HA
    gi_wp2
    refine wpIn_rangeFunc_GA (encs := encZ) rfl (by have := HN.out; omega) (gf := 118) (lb := #[.pointer (some ⟨y, 0, none⟩)]) rfl trivial (enters_of Tryz.func118 (by kernel_rfl) rfl)
      (each7_seq E w2 y B1 B2 H2.out.2.1 HE.out.1 HE.out.2.1 HE.out.2.2.1 (n - 1) (by have := HN.out; omega)).nine (Below.refl _ _) (fun _ => rfl) (fun pre x A A' h k => h.bk k.seven) (fun pre x A A' B B' k1 h k2 => KZ.bk k1.seven h k2.seven)
      (fun pre A => ∃ xs : List EZ, xs.length = (cellsL (E.take pre.length)).length ∧ St9 l W.heap.size w1.heap.size J xs A ∧ w2.heap.size ≤ A.heap.size ∧ ∀ y ∈ xs, y.2.2.2 ≤ A.heap.size) (fun c pre A => c = .ret ∧ ∃ ys, Jx ys A)
      (fun s A A' ⟨xs, e, h, hz, ha⟩ k => ⟨xs, e, h.tr HJ.out k (by have := H2.out; omega) (by have := H2.out; omega), Nat.le_trans hz k.size, fun y hy => Nat.le_trans (ha y hy) k.size⟩) (fun c s A A' ⟨e, ys, h⟩ k => ⟨e, ys, HX.out _ _ _ h (k.mono (fun _ h => h.elim) (by have := H2.out; omega))⟩) ⟨[], rfl, H2.out.1, Nat.le_refl _, fun y hy => by cases hy⟩ (fun (_ : List PZ) (x1 : PZ) (a' : Act) (_ : World) => a' = { tmps := #[.func (.yield l) #[] #[], .pointer (some ⟨x, 0, none⟩), .pointer (some ⟨W.heap.size, 0, none⟩), .pointer (some ⟨w1.heap.size, 0, none⟩), x1.1, undef, .pointer (some ⟨q, 0, none⟩), .bool true, .bool false, .pointer (some ⟨q, 0, none⟩), .func (.func 118) #[] #[.pointer (some ⟨y, 0, none⟩)], x1.1, undef, undef, undef, undef, undef, undef, undef, undef, undef, undef], defers := [] }) (fun _ _ _ _ _ h _ => h) ?assign ?body ?done ?stop
    case assign =>
      intro l1 pre x1 W1 K _ _ hK
      gi_wp2
      exact hK _ _ (Below.refl _ _) rfl
    case body =>
      intro l1 pre x1 a' W1 hl1 hrec hI hG hax
      subst hax
      obtain ⟨e, s, he, hx1, hin, hlo, hhi⟩ := hG
      obtain ⟨x1v, xlo, xhi⟩ := x1
      simp only at hx1 hin hlo hhi
      subst hx1
      obtain ⟨u, yy, hux⟩ := pieceQ_if e s
      obtain ⟨r1, hr1⟩ := hrec
      have hem := List.mem_of_getElem? he
      have cC := cellsOf_call u yy W1
      obtain ⟨xs0, hxs0, hst0, hzz, has0⟩ := hI
      have HP : Hid (E[pre.length]? = some e ∧ e ∈ E ∧ w2.heap.size ≤ W1.heap.size) := ⟨he, hem, hzz⟩
      have HAS : Hid (∀ y ∈ xs0, y.2.2.2 ≤ W1.heap.size) := has0
      have HW1 : Hid (W1.heap[l1]? = some (.loop r1) ∧ InA W1 xlo xhi s e.A ∧ xhi ≤ W1.heap.size) := ⟨hr1, hin, hhi⟩
      have HST : Hid (xs0.length = (cellsL (E.take pre.length)).length ∧ St9 l W.heap.size w1.heap.size J xs0 W1) := ⟨hxs0, hst0⟩
      have HU : Hid (pieceQ e s = .iface u yy) := hux
      clear he hem hin hhi hlo hr1 hux hxs0 hst0 hl1 hzz has0
      rw [HU.out]
      gi_wp2
      refine ⟨trivial, (fun _ => by have := HN.out; omega), (CallsIn.inRound l1 (callsIn_wide.2 cC)).mono ?_⟩
      rintro r w3 ⟨rfl, hc3, hb3⟩
      clear cC
      gi_wp2
      refine wpIn_rangeFunc_GN (encs := encC9) (l₀ := l1) (r₀ := r1) rfl (heap_below hb3 HW1.out.1) (by have := HN.out; omega) (gf := 120) (lb := #[.pointer (some ⟨W1.heap.size, 0, none⟩)]) rfl trivial (enters_of Tryz.func120 (by kernel_rfl) rfl)
        (SeqG9.inRound l1 (one9_seq e s w3 W1.heap.size xlo xhi (HE.out.2.2.2.1 e HP.out.2.1) (by rw [HU.out]; exact hc3) (HW1.out.2.1.below hb3) (Nat.le_trans HW1.out.2.2 hb3.size) (HE.out.2.1 e HP.out.2.1) (n - 1 - 1 - 1) (by have := HN.out; omega))) (Below.refl _ _) (fun _ => rfl) (fun pre x A A' h k => h.bk k) (fun pre x A A' B B' k1 h k2 => KC9.bk k1 h k2)
        (fun (qs : List CZ) A => ∃ xs : List EZ, xs.length = (cellsL (E.take pre.length)).length + qs.length ∧ St9 l W.heap.size w1.heap.size J xs A ∧ KZ pre (pieceQ e s, xlo, xhi) W1 A ∧ KeepsFrom w2.heap.size W1 A ∧ (∀ y ∈ xs, y.2.2.2 ≤ w3.heap.size ∨ ∃ q ∈ qs, y.2.2.2 = q.2.2) ∧ ∀ y ∈ xs, y.2.2.2 ≤ A.heap.size) (fun c (_ : List CZ) A => c = .ret ∧ (∃ ys, Jx ys A) ∧ KeepsFrom w2.heap.size W1 A)
        ?hI2 ?hIx2 ?h02 (fun (_ : List CZ) (z : CZ) (a' : Act) (A : World) => ∃ b, a' = { tmps := #[.func (.yield l) #[] #[], .pointer (some ⟨x, 0, none⟩), .pointer (some ⟨W.heap.size, 0, none⟩), .pointer (some ⟨w1.heap.size, 0, none⟩), .iface u yy, .pointer (some ⟨b, 0, none⟩), .pointer (some ⟨q, 0, none⟩), .bool true, .bool false, .pointer (some ⟨q, 0, none⟩), .func (.func 118) #[] #[.pointer (some ⟨y, 0, none⟩)], .iface u yy, .iface u yy, .func (.func 120) #[] #[.pointer (some ⟨W1.heap.size, 0, none⟩)], ceV z.1, undef, undef, undef, undef, undef, undef, undef], defers := [] } ∧ A.heap[b]? = some (.cells (ceC z.1) 39 (0, 0))) (fun _ _ _ _ _ ⟨b, h1, h2⟩ k => ⟨b, h1, k.cells h2⟩) ?assign2 ?body2 ?done2 ?stop2
      case hI2 =>
        rintro qs A A' ⟨xs, h1, h2, h3, h4, h5, h6⟩ k
        have hs := hb3.size
        exact ⟨xs, h1, h2.tr HJ.out k (by have := H2.out; have := HP.out; omega) (by have := H2.out; have := HP.out; omega), h3.step9 k.size (fun b cs hb => k.kept _ _ hb (.inr ⟨_, _, _, rfl, fun h => h⟩)) (fun b cs _ hb => k.kept _ _ hb (.inr ⟨_, _, _, rfl, fun h => h⟩)), ⟨Nat.le_trans h4.size k.size, fun b o hB ho hc => k.kept _ _ (h4.same b o hB ho hc) (.inl (by have := (Array.getElem?_eq_some_iff.1 ho).1; omega))⟩, h5, fun y hy => Nat.le_trans (h6 y hy) k.size⟩
      case hIx2 =>
        rintro c qs A A' ⟨h1, ⟨ys, h2⟩, h4⟩ k
        have hs := hb3.size
        exact ⟨h1, ⟨ys, HX.out _ _ _ h2 (k.mono (fun _ h => h.elim) (by have := H2.out; have := HP.out; omega))⟩, ⟨Nat.le_trans h4.size k.size, fun b o hB ho hc => k.kept _ _ (h4.same b o hB ho hc) (.inl (by have := (Array.getElem?_eq_some_iff.1 ho).1; omega))⟩⟩
      case h02 =>
        exact ⟨xs0, HST.out.1, ⟨HJ.out _ _ _ HST.out.2.j (Tr7.of_below hb3), heap_below hb3 HST.out.2.f, heap_below hb3 HST.out.2.i⟩, ⟨hb3.size, fun k cs hk => heap_below hb3 hk, fun k cs hk _ => heap_below hb3 hk⟩, ⟨hb3.size, fun k o _ ho _ => heap_below hb3 ho⟩, fun y hy => .inl (Nat.le_trans (HAS.out y hy) hb3.size), fun y hy => Nat.le_trans (HAS.out y hy) hb3.size⟩
      case assign2 =>
        intro l2 qs z W4 K _ _ hK
        obtain ⟨⟨zk, zt, ⟨z1, z2, z3⟩, zp, zl, zc⟩, zlo, zhi⟩ := z
        simp only [encC9, ceV, slV]
        gi_wp2
        exact hK _ _ ((Below.refl _ _).alloc (Nat.le_refl _) _) ⟨W4.heap.size, rfl, heap_alloc_new W4 _⟩
      case body2 =>
        rintro l2 qs z a' W4 hl2 hrec2 ⟨xs, hxs, hst, hkz, hkf, has1, has2⟩ hG2 ⟨b, rfl, hb⟩
        obtain ⟨c, hc, g1, g2, g3, g4, g5, g6, g7⟩ := hG2
        have hat := cells_at9 HP.out.1 hc
        rw [← hxs] at hat
        have hlt := (List.getElem?_eq_some_iff.1 hat).1
        have hs3 := hb3.size
        have hYk := HY.out xs (xs.length, z) W4 hst.j ⟨rfl, c, by rw [HDC.out (by first | trivial | rfl)]; exact hat, g1, g2, g3, g4, by have := H2.out; have := HP.out; have := HN.out; show w0.heap.size ≤ z.2.1; omega, g6, fun y hy => by
          rcases has1 y hy with h | ⟨q, hq, h⟩
          · exact Nat.le_trans h g5
          · show y.2.2.2 ≤ z.2.1
            rw [h]; exact g7 q hq⟩
        have H4 : Hid (xs.length = (cellsL (E.take pre.length)).length + qs.length ∧ St9 l W.heap.size w1.heap.size J xs W4 ∧ KZ pre (pieceQ e s, xlo, xhi) W1 W4 ∧ KeepsFrom w2.heap.size W1 W4 ∧ w3.heap.size ≤ z.2.1) := ⟨hxs, hst, hkz, hkf, g5⟩
        have HA4 : Hid ((∀ y ∈ xs, y.2.2.2 ≤ w3.heap.size ∨ ∃ q ∈ qs, y.2.2.2 = q.2.2) ∧ (∀ y ∈ xs, y.2.2.2 ≤ W4.heap.size) ∧ z.2.2 ≤ W4.heap.size) := ⟨has1, has2, g6⟩
        obtain ⟨⟨zk, zt, ⟨z1, z2, z3⟩, zp, zl, zc⟩, zlo, zhi⟩ := z
        obtain ⟨N, hN⟩ : ∃ N, xs.length = N := ⟨_, rfl⟩
        have HNN : Hid (xs.length = N) := hN
        have cf : W4.cell? ⟨W.heap.size, 0, none⟩ = some (.func (.yield l) #[] #[]) := by rw [cell_of_heap hst.f]; rfl
        have ci : W4.cell? ⟨w1.heap.size, 0, none⟩ = some (.int .i64 N) := by rw [cell_of_heap hst.i, hN]; rfl
        have b0 : W4.cell? ⟨b, 0, none⟩ = some (.int .i32 zk) := by rw [cell_of_heap hb]; rfl
        have b1 : W4.cell? ⟨b, 1, none⟩ = some (.string zt) := by rw [cell_of_heap hb]; rfl
        have b2 : W4.cell? ⟨b, 2, none⟩ = some (.int .i64 z1) := by rw [cell_of_heap hb]; rfl
        have b3' : W4.cell? ⟨b, 3, none⟩ = some (.int .i64 z2) := by rw [cell_of_heap hb]; rfl
        have b4 : W4.cell? ⟨b, 4, none⟩ = some (.string z3) := by rw [cell_of_heap hb]; rfl
        have b5 : W4.cell? ⟨b, 5, none⟩ = some (.slice zp zl zc) := by rw [cell_of_heap hb]; rfl
        have hNb : N + 1 ≤ 1099511627776 := by have := HG.out; omega
        simp only [encE9, ceV, slV, hN] at hYk
        obtain ⟨fn, tm, asg, bo, hy, hR⟩ := hYk
        have hR' := roundIn_any9 (m := n - 1 - 1 - 1 - 1 - 1) (l1 := l1) (l2 := l2) hR
        clear hR hat hc g1 g2 g3 g4 g5 g6 g7 hst hkz hkf hxs hlt hb hN hl2 has1 has2
        simp only [ceV, slV]
        gi_wp2
        refine ⟨(fun _ => by have := HN.out; omega), hR'.mono ?_⟩
        rintro e' W6 (⟨rfl, hj6, hk6, hn6⟩ | ⟨rfl, hj6, hn6⟩)
        · have hi6 := hk6.own _ _ _ H4.out.2.1.i (.inr (.inr (.inr ⟨by have := H2.out; have := HN.out; omega, by decide, by decide⟩)))
          have hf6 := hk6.own _ _ _ H4.out.2.1.f (.inr (.inr (.inr ⟨HN.out.2, by decide, by decide⟩)))
          rw [HNN.out] at hi6
          have c6 : W6.cell? ⟨w1.heap.size, 0, none⟩ = some (.int .i64 N) := by rw [cell_of_heap hi6]; rfl
          have f6 : W6.frozen? ⟨w1.heap.size, 0, none⟩ = false := frozen_of_heap hi6 0
          have hw : IntKind.i64.wrap ((N : Int) + 1) = N + 1 := by rw [IntKind.wrap_i64]; omega
          have H6 : Hid (J (xs ++ [(N, ((zk, zt, (z1, z2, z3), zp, zl, zc), zlo, zhi))]) W6 ∧ KE9 w0.heap.size xs (N, ((zk, zt, (z1, z2, z3), zp, zl, zc), zlo, zhi)) W4 W6 ∧ NcK W.heap.size W4 W6 ∧ W6.heap[w1.heap.size]? = some (.cells #[.int .i64 N] 3 (0, 0)) ∧ W6.heap[W.heap.size]? = some (.cells #[.func (.yield l) #[] #[]] 146 (0, 0))) := ⟨hj6, hk6, hn6, hi6, hf6⟩
          clear hj6 hk6 hn6 hi6 hf6 cf ci b0 b1 b2 b3' b4 b5 hy hR'
          gi_wp2
          obtain ⟨q1, q2, q3, q4, q5⟩ := H6.out
          obtain ⟨r1', r2, r3, r4, r5⟩ := H4.out
          have hz := H2.out
          have hz1 := HP.out.2.2
          have hoth : ∀ (k : Nat) (o : Obj), W6.heap[k]? = some o → k ≠ w1.heap.size → (W6.setCell ⟨w1.heap.size, 0, none⟩ (.int .i64 (N + 1))).heap[k]? = some o := fun k o hk hne => (Below.heap_setCell _ _ _ _ hne).trans hk
          have hne : ∀ (k : Nat) (o : Obj), W6.heap[k]? = some o → (∀ cs, o ≠ .cells cs 3 (0, 0)) → k ≠ w1.heap.size := fun k o hk ho e => by subst e; rw [q4] at hk; exact ho _ (Option.some.inj hk).symm
          have hsz : W6.heap.size ≤ (W6.setCell ⟨w1.heap.size, 0, none⟩ (.int .i64 (N + 1))).heap.size := by simp
          have h7 : (W6.setCell ⟨w1.heap.size, 0, none⟩ (.int .i64 (N + 1))).heap[w1.heap.size]? = some (.cells #[.int .i64 (N + 1)] 3 (0, 0)) := by
            have := heap_set_at W6 w1.heap.size 0 (.int .i64 (N + 1)) _ _ _ q4
            simpa using this
          refine ⟨⟨Nat.le_trans q3.1 hsz, fun k o hk ho hc => hoth k o (q3.2 k o (by omega) ho hc) (by omega)⟩, ⟨Nat.le_trans q2.size hsz, fun k cs t hk ht => ?_, fun k t p hk => hoth k _ (q2.ite k t p hk) (hne k _ (q2.ite k t p hk) (fun cs e => by cases e)), fun k cs hk ho => hoth k _ (q2.att k cs hk ho) (hne k _ (q2.att k cs hk ho) (fun cs e => by cases e))⟩, xs ++ [(N, ((zk, zt, (z1, z2, z3), zp, zl, zc), zlo, zhi))], ?_, ⟨HJ.out _ _ _ q1 (tr7_set9 (T := fun t => t = 3) (B := W.heap.size) q4 (by omega) rfl 0 _), hoth _ _ q5 (by omega), ?_⟩, ?_, ⟨Nat.le_trans r4.size (Nat.le_trans q3.1 hsz), fun k o hk ho hc => hoth k o (q3.2 k o (by omega) (r4.same k o hk ho hc) hc) (by omega)⟩, fun y hy => ?_, fun y hy => ?_⟩
          · have h8 := q2.own k cs t hk (ht.elim .inl fun h => .inr (.inl h))
            exact hoth k _ h8 (hne k _ h8 (fun cs' e => by rcases ht with rfl | rfl <;> cases e))
          · rw [List.length_append, List.length_append, r1']; rfl
          · rw [h7, List.length_append, HNN.out]; rfl
          · exact r3.step9 (Nat.le_trans q2.size hsz) (fun k cs hk => hoth k _ (q2.own k cs _ hk (.inr (.inr (.inl rfl)))) (hne k _ (q2.own k cs _ hk (.inr (.inr (.inl rfl)))) (fun cs' e => by cases e))) (fun k cs hlt hk => by
              have h8 := q2.att k cs hk (.inl (by show k < zlo; have : w3.heap.size ≤ zlo := r5; omega))
              exact hoth k _ h8 (hne k _ h8 (fun cs' e => by cases e)))
          · rcases List.mem_append.1 hy with hy | hy
            · rcases HA4.out.1 y hy with h | ⟨q, hq, h⟩
              · exact .inl h
              · exact .inr ⟨q, List.mem_append_left _ hq, h⟩
            · exact .inr ⟨_, List.mem_append_right _ (List.mem_singleton.2 rfl), by rw [List.mem_singleton.1 hy]⟩
          · rcases List.mem_append.1 hy with hy | hy
            · exact Nat.le_trans (HA4.out.2.1 y hy) (Nat.le_trans q3.1 hsz)
            · rw [List.mem_singleton.1 hy]; exact Nat.le_trans HA4.out.2.2 (Nat.le_trans q3.1 hsz)
        · have H6 : Hid ((∃ ys, Jx ys W6) ∧ NcK W.heap.size W4 W6) := ⟨⟨_, hj6⟩, hn6⟩
          clear hj6 hn6 cf ci b0 b1 b2 b3' b4 b5 hy hR'
          gi_wp2
          obtain ⟨q1, q3⟩ := H6.out
          obtain ⟨r1', r2, r3, r4, r5⟩ := H4.out
          have hz := H2.out
          have hz1 := HP.out.2.2
          exact ⟨⟨q3.1, fun k o hk ho hc => q3.2 k o (by omega) ho hc⟩, rfl, q1, ⟨Nat.le_trans r4.size q3.1, fun k o hk ho hc => q3.2 k o (by omega) (r4.same k o hk ho hc) hc⟩⟩
      case done2 =>
        rintro qs A hS ⟨xs, h1, h2, h3, h4, h5, h6⟩
        have hln : (cellsL (E.take (pre ++ [((pieceQ e s, xlo, xhi) : PZ)]).length)).length = xs.length := by
          rw [List.length_append, List.length_singleton, List.take_add_one, HP.out.1]
          unfold cellsL
          rw [List.flatMap_append, List.length_append, h1, hS]
          simp [cellsL]
        gi_wp2
        have hsz : w2.heap.size ≤ A.heap.size := Nat.le_trans HP.out.2.2 h4.size
        rw [HU.out] at h3 hln
        exact ⟨h4, h3, xs, hln.symm, h2, hsz, h6⟩
      case stop2 =>
        rintro c qs A ⟨rfl, h2, h4⟩
        gi_wp2
        exact ⟨h4, rfl, h2⟩
    case done =>
      rintro D xs A hD hS ⟨ys, hys, hst, -, -⟩ hK
      have hfin : Hid (ys.length = m) := by
        show ys.length = m
        rw [hys, hS, List.take_length]; exact HE.out.2.2.2.2.symm
      gi_wp2
      exact eachC_leave D A _ hK ⟨ys, hfin.out, HJ.out _ _ _ hst.j (tr7_put9 hK (by have := H2.out; omega))⟩
    case stop =>
      rintro D c pre A hD ⟨rfl, ys, hj⟩ hK
      gi_wp2
      exact eachC_leaveX D A _ hK ⟨ys, HX.out _ _ _ hj (tr7_put9 hK (by have := H2.out; omega))⟩
end Go.Proofs.YthfpmhnnjjikcabGreatDoor

/- cells.List of a document. -/
namespace Go.Proofs.YthfpmhnnjjikcabGreatDoor
open Go Go.RowKit Go.Lib Go.Shelf
set_option linter.unusedVariables false
attribute [local go_sem] Oper.semAt_some
theorem wpListIn_append_cells {F : Fence} {n : Nat} {w : World} {ops : Array Oper} {rest : List Oper} {o : Oper} {a : Act} {Q : Exit → Act → World → Prop} (hgd : o.guard = none) (s x : Operand)
    (ho : o.op = .call { callee := .builtin .append, args := #[s, x], argTypes := #[22, 22] })
    (base : Nat) (v : Value) (L : List CV) (hs : a.eval s = v) (hown : OwnC w base v L)
    (b : Nat) (d : CV) (hx : a.eval x = .slice (some ⟨b, 0, none⟩) 1 1) (hM : w.heap[b]? = some (.cells (ceC d) 39 (0, 0)))
    (h63 : L.length + 1 ≤ 33554432) (hbase : base ≤ w.heap.size)
    (h : ∀ v' w', OwnC w' base v' (L ++ [d]) → w.grownBy w' v.ownBlock → wpListIn F n Tryz.prog ops Q rest (a.put o.dst v') w') : wpListIn F n Tryz.prog ops Q (o :: rest) a w := by
  obtain ⟨i, z, hi, hz, hz1, hz2, hz3⟩ := infoCe
  refine wpListIn_append_own _ hgd s x _ ho base 39 i z 6 80 Tryz.underlying22 hi hz hz1 hz2 hz3 (by decide) v L.length (cellsC L) hs hown ⟨b, 0, none⟩ 1 1 (cellsC [d]) hx (by rw [cellsC_len]; rfl) (fun j y hj => ?_) (cellsC_one _) (by unfold maxLen; omega) (by omega) hbase (fun v' w' h1 h2 _ => ?_)
  · rw [Addr.add_lit, Nat.zero_add, cell_of_heap hM, List.getElem?_toArray]
    exact hj
  · refine h v' w' ?_ h2
    show w'.ownsRow _ _ _ _ _ _
    rw [cellsC_append, List.length_append]
    exact h1
/-- The cells' own lists lie in blocks of their own, one behind the other. -/
def Asc9 (D : List CV) : Prop := D.Pairwise fun d d' => ∀ k k', (slV d.2.2.2).ownBlock = some k → (slV d'.2.2.2).ownBlock = some k' → k < k'
/-- What List has so far. -/
structure Li9 (E : List Op5) (w : World) (O : Nat) (pre : List EZ) (lv : Value) (D : List CV) (A : World) : Prop where
  box : A.heap[O]? = some (.cells #[lv] 22 (0, 0))
  len : D.length = pre.length
  own : OwnC A w.heap.size lv D
  are : AreO A w.heap.size D ((cellsL E).take pre.length)
  below : Below w.heap.size w A
  asc : Asc9 D
  mks : ∀ d ∈ D, ∀ k, (slV d.2.2.2).ownBlock = some k → ∃ y ∈ pre, k < y.2.2.2
theorem Li9.tr {E : List Op5} {w : World} {O B : Nat} {pre : List EZ} {lv : Value} {D : List CV} {A A' : World} (h : Li9 E w O pre lv D A) (k : Tr7 (fun t => t = 3) B A A') (hO : O < B) (hw : w.heap.size ≤ B) : Li9 E w O pre lv D A' :=
  ⟨k.kept _ _ h.box (.inl hO), h.len, owns_same h.own fun j hj => (by
    obtain ⟨_, cur, hc⟩ := owns_block h.own j hj
    exact (k.kept _ _ hc (.inr ⟨_, _, _, rfl, by decide⟩)).trans hc.symm), h.are.keep (fun j cur hj => (k.kept _ _ hj (.inr ⟨_, _, _, rfl, by decide⟩)).trans hj.symm), tr_below8 h.below (Nat.le_refl _) hw k, h.asc, h.mks⟩
theorem list_leave (A : World) (D : Nat) (tmps : Array Value) (lv : Value) {R : Value → World → Prop} (h2 : tmps[2]? = some lv) (h3 : tmps[3]? = some .nilIface) (hK : A.heap[D]? = some (.deferred (some []))) (h : R lv (A.putObj D (.deferred none))) :
    bodyPostM Fence.wide 15 Tryz.prog Tryz.f12 (fun r w' => ∃ lv, r = .returned (.tuple #[lv, .nilIface]) ∧ R lv w') Exit.ret { tmps := tmps, defers := [{ target := .collected D, args := #[] }] } A := by
  refine ⟨by simp, .inl ⟨_, _, rfl, run_takeDeferred hK, ?_⟩⟩
  refine ⟨.tuple #[lv, .nilIface], ?_, ⟨lv, rfl, h⟩⟩
  simp [results, Tryz.results12, go_sem, h2, h3]
theorem list_keep {E : List Op5} {w A A' : World} {O : Nat} {pre : List EZ} {lv : Value} {L : List CV} {d : CV} (h : Li9 E w O pre lv L A) (g : (A.alloc (.cells (ceC d) 39)).grownBy A' lv.ownBlock) (k : Nat) (o : Obj) (hk : A.heap[k]? = some o) (hn : ∀ cs, o ≠ .cells cs 39 (0, 0)) : A'.heap[k]? = some o := by
  have hlt := (Array.getElem?_eq_some_iff.1 hk).1
  refine (g.block k (by rw [World.size_alloc]; omega) fun e => ?_).trans ((Below.heap_alloc _ _ _ hlt).trans hk)
  obtain ⟨_, cur, hc⟩ := owns_block h.own k e.symm
  rw [hk] at hc
  exact hn cur (Option.some.inj hc)
theorem list_box {E : List Op5} {w A A' : World} {O : Nat} {pre : List EZ} {lv : Value} {L : List CV} {d : CV} (h : Li9 E w O pre lv L A) (g : (A.alloc (.cells (ceC d) 39)).grownBy A' lv.ownBlock) : A'.heap[O]? = some (.cells #[lv] 22 (0, 0)) :=
  list_keep h g O _ h.box (fun cs e => by cases e)
theorem list_round {E : List Op5} {w A A' : World} {O W4 zi zlo zhi : Nat} {pre : List EZ} {lv v' : Value} {L : List CV} {zk : Int} {zt : ByteArray} {zz : P3} {zp : Option Addr} {zl zc : Nat} {e : C5} (h : Li9 E w O pre lv L A) (he : (cellsL E)[pre.length]? = some e) (hz : zk = e.1 ∧ zt = e.2.1 ∧ zz = e.2.2.1) (hin : InA A zlo zhi (.slice zp zl zc) e.2.2.2) (hlo : W4 ≤ zlo) (has : ∀ y ∈ pre, y.2.2.2 ≤ zlo) (own : OwnC A' w.heap.size v' (L ++ [(zk, zt, zz, zp, zl, zc)])) (g : (A.alloc (.cells (ceC (zk, zt, zz, zp, zl, zc)) 39)).grownBy A' lv.ownBlock) (hbx : A'.heap[O]? = some (.cells #[lv] 22 (0, 0))) (hO : O < W4 ∧ w.heap.size ≤ O) :
    KeepsFrom W4 A (A'.setCell ⟨O, 0, none⟩ v') ∧ KE9 W4 pre (zi, ((zk, zt, zz, zp, zl, zc), zlo, zhi)) A (A'.setCell ⟨O, 0, none⟩ v') ∧ ∃ lv D, Li9 E w O (pre ++ [(zi, ((zk, zt, zz, zp, zl, zc), zlo, zhi))]) lv D (A'.setCell ⟨O, 0, none⟩ v') := by
  have key : ∀ (k : Nat) (o : Obj), A.heap[k]? = some o → (∀ cs, o ≠ .cells cs 39 (0, 0)) → k ≠ O → (A'.setCell ⟨O, 0, none⟩ v').heap[k]? = some o := fun k o hk hn hne => (Below.heap_setCell _ _ _ _ hne).trans (list_keep h g k o hk hn)
  have hnO : ∀ (k : Nat) (o : Obj), A.heap[k]? = some o → (∀ cs, o ≠ .cells cs 22 (0, 0)) → k ≠ O := fun k o hk hn e => by subst e; rw [h.box] at hk; exact hn _ (Option.some.inj hk).symm
  have hsz : A.heap.size ≤ (A'.setCell ⟨O, 0, none⟩ v').heap.size := by have := g.size; rw [World.size_alloc] at this; simp; omega
  have hka : KeepA A (A'.setCell ⟨O, 0, none⟩ v') := fun k cur hk => (key k _ hk (fun cs e => by cases e) (hnO k _ hk (fun cs e => by cases e))).trans hk.symm
  refine ⟨⟨hsz, fun k o _ hk hc => key k o hk (fun cs e => by rw [e] at hc; cases hc) (hnO k o hk (fun cs e => by rw [e] at hc; cases hc))⟩, ⟨hsz, fun k cs t hk ht => ?_, fun k t p hk => key k _ hk (fun cs e => by cases e) (hnO k _ hk (fun cs e => by cases e)), fun k cs hk _ => key k _ hk (fun cs e => by cases e) (hnO k _ hk (fun cs e => by cases e))⟩, v', L ++ [(zk, zt, zz, zp, zl, zc)], ?_, ?_, ?_, ?_, ?_, ?_, ?_⟩
  · rcases ht with rfl | rfl | rfl | ⟨h1, h2, h3⟩
    · exact key k _ hk (fun cs e => by cases e) (hnO k _ hk (fun cs e => by cases e))
    · exact key k _ hk (fun cs e => by cases e) (hnO k _ hk (fun cs e => by cases e))
    · exact key k _ hk (fun cs e => by cases e) (hnO k _ hk (fun cs e => by cases e))
    · exact key k _ hk (fun cs e => by cases e; exact h2 rfl) (by omega)
  · have := heap_set_at A' O 0 v' _ _ _ hbx
    simpa using this
  · rw [List.length_append, List.length_append, h.len]; rfl
  · refine owns_same own fun k hk => Below.heap_setCell _ _ _ _ fun e => ?_
    obtain ⟨_, cur, hc⟩ := owns_block own k hk
    rw [show k = O from e, hbx] at hc
    cases hc
  · rw [List.length_append, List.length_singleton, List.take_add_one, he]
    exact forall2_append (h.are.keep hka) (.cons ⟨hz.1, hz.2.1, hz.2.2, keepA_own (own_weaken hin.own (by omega)) hka⟩ .nil)
  · have h1 : Below w.heap.size w (A.alloc (.cells (ceC (zk, zt, zz, zp, zl, zc)) 39)) := h.below.alloc h.below.size _
    exact (h1.grown g h1.size (fun k hk => (owns_block h.own k hk).1)).setCell (p := ⟨O, 0, none⟩) hO.2 _
  · refine List.pairwise_append.2 ⟨h.asc, List.pairwise_singleton _ _, fun d hd d' hd' k k' hk hk' => ?_⟩
    rw [List.mem_singleton.1 hd'] at hk'
    obtain ⟨y, hy, hlt⟩ := h.mks d hd k hk
    have h1 := has y hy
    have h2 := (owns_block hin.own k' hk').1
    omega
  · intro d hd k hk
    rcases List.mem_append.1 hd with hd | hd
    · obtain ⟨y, hy, hlt⟩ := h.mks d hd k hk
      exact ⟨y, List.mem_append_left _ hy, hlt⟩
    · rw [List.mem_singleton.1 hd] at hk
      exact ⟨_, List.mem_append_right _ (List.mem_singleton.2 rfl), hin.top k hk⟩
set_option maxHeartbeats 8000000 in
set_option maxRecDepth 100000 in
theorem list9_asc {B1 B2 : Nat} (v : Value) (E : List Op5) (w : World) (h : DlE w B1 B2 v E) (h0 : sumB E = 0) (hc : sumR E ≤ 2097152) (hl : (cellsL E).length ≤ 2097152) :
    Calls Tryz.prog 12 #[v] w fun r w' => ∃ lv, r = .returned (.tuple #[lv, .nilIface]) ∧ (∃ D, OwnC w' w.heap.size lv D ∧ AreO w' w.heap.size D (cellsL E) ∧ Asc9 D) ∧ Below w.heap.size w w' := by
  have cD := doc8_any v E w h
  rw [show (sumB E == 0) = true by rw [h0]; rfl] at cD
  obtain ⟨N, hN⟩ : ∃ N : Nat, sumR E = N := ⟨(sumR E).toNat, by have := h.sums; omega⟩
  have cR : Hid (∀ W, Below w.heap.size w W → Calls Tryz.prog 49 #[v] W fun e w' => e = .returned (.int .i64 N) ∧ Below W.heap.size W w') := fun W hW => by rw [← hN]; exact result8_any v E W (h.below hW)
  have cE : Hid (∀ W, Below w.heap.size w W → Calls Tryz.prog 50 #[v] W fun r w' => ∃ x, r = .returned (.func (.func 88) #[] #[.pointer (some ⟨x, 0, none⟩)]) ∧ (∃ u, w'.cell? ⟨x, 0, none⟩ = some u ∧ DlE w' B1 B2 u E) ∧ Below W.heap.size W w') := fun W hW => by
    refine (eachC_call v E W (h.d.below hW)).mono ?_
    rintro r w' ⟨x, e, ⟨u, h1, h2⟩, _, h3⟩
    exact ⟨x, e, ⟨u, h1, ⟨h2, h.g, h.fit, h.len, h.txt, h.fits⟩⟩, h3⟩
  have HB : Hid (sumB E = 0 ∧ N ≤ 2097152 ∧ (cellsL E).length ≤ 2097152) := ⟨h0, by omega, hl⟩
  obtain ⟨q, rfl⟩ : ∃ q, v = .pointer (some ⟨q, 0, none⟩) := by obtain ⟨q, _, _, e, _⟩ := h.d; exact ⟨q, e⟩
  obtain ⟨i0, z0', hi, hz, hz1, hz2, hz3⟩ := infoCe
  have hZ : Hid (i0.zero = some z0' ∧ i0.size = 6 ∧ i0.bytes = 80 ∧ z0'.cells.size = 6) := ⟨hz, hz1, hz2, hz3⟩
  have hN2 : N ≤ 2097152 := HB.out.2.1
  clear h h0 hc hl hN hz hz1 hz2 hz3
  refine (callsIn_wide (n := 15)).1 ?_
  refine callsIn_of_wp_marks Tryz.func12 rfl trivial ?_ rfl
  simp only [Tryz.ntmps12, List.size_toArray, List.length_cons, List.length_nil, Nat.reduceAdd, Nat.reduceSub, Array.replicate_succ, Array.replicate_zero, List.push_toArray, List.append_toArray, List.nil_append, List.cons_append]
  rw [wpIn_wide]
  go_wp2_with fail
  refine cD.mono ?_; rintro r w1 ⟨rfl, hb1⟩
  have c2 := cR.out w1 hb1
  clear cD cR
  go_wp2_with fail
  refine c2.mono ?_; rintro r w2 ⟨rfl, hb2'⟩
  have hb2 := hb1.trans (hb2'.mono hb1.size)
  have hs2 := hb2.size
  clear c2 hb1 hb2'
  go_wp2_with (at_make; refine wpList_make_own _ rfl _ _ 22 rfl w.heap.size 39 i0 z0' 6 Tryz.underlying22 hi hZ.out.1 hZ.out.2.1 .i64 .i64 _ N rfl rfl rfl (by rw [hZ.out.2.2.1]; omega) (by unfold maxLen; omega) hs2 ?_; intro w3 hown hgr; have hb3 : Below w.heap.size w w3 := (hb2.grown hgr hb2.size (fun k hk => by cases hk)))
  have bO : Below w3.heap.size w3 (w3.alloc (.cells #[.slice (some ⟨w2.heap.size, 0, none⟩) 0 N] 22)) := (Below.refl _ _).alloc (Nat.le_refl _) _
  have hO := heap_alloc_new w3 (.cells #[.slice (some ⟨w2.heap.size, 0, none⟩) 0 N] 22)
  have hbO := hb3.trans (bO.mono hb3.size)
  have c3 := cE.out _ hbO
  have hown' : OwnC w3 w.heap.size (.slice (some ⟨w2.heap.size, 0, none⟩) 0 N) [] := hown
  refine c3.mono ?_; rintro r w4 ⟨x, rfl, hx, hb4⟩
  have H4 : Hid (Li9 E w w3.heap.size [] (.slice (some ⟨w2.heap.size, 0, none⟩) 0 N) [] w4 ∧ (∃ u, w4.cell? ⟨x, 0, none⟩ = some u ∧ DlE w4 B1 B2 u E) ∧ w3.heap.size < w4.heap.size ∧ w.heap.size ≤ w3.heap.size) := by
    have h1 := heap_below hb4 hO
    exact ⟨⟨h1, rfl, owns_below (owns_below hown' bO) hb4, by rw [List.length_nil, List.take_zero]; exact .nil, hbO.trans (hb4.mono hbO.size), List.Pairwise.nil, fun d hd => by cases hd⟩, hx, (Array.getElem?_eq_some_iff.1 h1).1, hb3.size⟩
  clear c3 cE hx hb4 hO bO hbO hown hown' hgr hb3 hb2 hs2 hi hZ
  go_wp2_with fail
  refine (wpIn_wide (n := 15)).1 ?_
  refine wpIn_rangeFunc_GA (encs := encE9) rfl (by decide) (gf := 88) (lb := #[.pointer (some ⟨x, 0, none⟩)]) rfl trivial (enters_of Tryz.func88 (by kernel_rfl) rfl)
    (eachC_seq E w4 x H4.out.2.1 (cellsL E).length (Nat.le_trans HB.out.2.2 (by decide)) (by rw [if_pos HB.out.1]) 14 (by decide)) (Below.refl _ _) (fun _ => rfl) (fun pre x A A' h k => h.bk k) (fun pre x A A' B B' k1 h k2 => KE9.bk k1 h k2)
    (fun (pre : List EZ) A => ∃ lv D, Li9 E w w3.heap.size pre lv D A) (fun _ _ _ => False)
    (fun s A A' ⟨lv, D, h⟩ k => ⟨lv, D, h.tr k (by have := H4.out; omega) (by have := H4.out; omega)⟩) (fun _ _ _ _ h _ => h) ⟨_, _, H4.out.1⟩
    (fun (_ : List EZ) (z : EZ) (a' : Act) (A : World) => ∃ b, a' = { tmps := #[.pointer (some ⟨q, 0, none⟩), undef, .slice none 0 0, .nilIface, .pointer (some ⟨w3.heap.size, 0, none⟩), undef, .pointer (some ⟨b, 0, none⟩), .pointer (some ⟨q, 0, none⟩), .bool true, .bool false, undef, .pointer (some ⟨q, 0, none⟩), .int .i64 N, .slice (some ⟨w2.heap.size, 0, none⟩) 0 N, .pointer (some ⟨q, 0, none⟩), .func (.func 88) #[] #[.pointer (some ⟨x, 0, none⟩)], .int .i64 (z.1 : Nat), ceV z.2.1, undef, undef, undef, undef, undef], defers := [] } ∧ A.heap[b]? = some (.cells (ceC z.2.1) 39 (0, 0))) (fun _ _ _ _ _ ⟨b, h1, h2⟩ k => ⟨b, h1, k.cells h2⟩) ?assign ?body ?done ?stop
  case assign =>
    intro l2 pre z W4 K _ _ hK
    obtain ⟨zi, ⟨zk, zt, ⟨z1, z2, z3⟩, zp, zl, zc⟩, zlo, zhi⟩ := z
    simp only [encE9, ceV, slV]
    gi_wp2
    exact hK _ _ ((Below.refl _ _).alloc (Nat.le_refl _) _) ⟨W4.heap.size, rfl, heap_alloc_new W4 _⟩
  case body =>
    rintro l2 pre z a' A hl2 hrec ⟨lv, L, hli⟩ hG ⟨b, rfl, hb⟩
    obtain ⟨hi0, e, he, g1, g2, g3, g4, g5, g6, g7⟩ := hG
    rw [docC9_yes HB.out.1] at he
    obtain ⟨zi, ⟨zk, zt, ⟨z1, z2, z3⟩, zp, zl, zc⟩, zlo, zhi⟩ := z
    have hlt := (List.getElem?_eq_some_iff.1 he).1
    have hln : L.length + 1 ≤ 33554432 := by have := HB.out.2.2; have := hli.len; omega
    have hbase : w.heap.size ≤ (A.alloc (.cells (ceC (zk, zt, (z1, z2, z3), zp, zl, zc)) 39)).heap.size := by have := hli.below.size; rw [World.size_alloc]; omega
    have HM : Hid ((A.alloc (.cells (ceC (zk, zt, (z1, z2, z3), zp, zl, zc)) 39)).heap[A.heap.size]? = some (.cells (ceC (zk, zt, (z1, z2, z3), zp, zl, zc)) 39 (0, 0)) ∧ OwnC (A.alloc (.cells (ceC (zk, zt, (z1, z2, z3), zp, zl, zc)) 39)) w.heap.size lv L) := ⟨heap_alloc_new A _, owns_below hli.own ((Below.refl _ _).alloc (Nat.le_refl _) _)⟩
    have HLI : Hid (Li9 E w w3.heap.size pre lv L A ∧ (cellsL E)[pre.length]? = some e ∧ (zk = e.1 ∧ zt = e.2.1 ∧ (z1, z2, z3) = e.2.2.1) ∧ InA A zlo zhi (.slice zp zl zc) e.2.2.2 ∧ w4.heap.size ≤ zlo ∧ ∀ y ∈ pre, y.2.2.2 ≤ zlo) := ⟨hli, he, ⟨g1, g2, g3⟩, g4, g5, g7⟩
    have cO : A.cell? ⟨w3.heap.size, 0, none⟩ = some lv := by rw [cell_of_heap hli.box]; rfl
    have b0 : A.cell? ⟨b, 0, none⟩ = some (.int .i32 zk) := by rw [cell_of_heap hb]; rfl
    have b1 : A.cell? ⟨b, 1, none⟩ = some (.string zt) := by rw [cell_of_heap hb]; rfl
    have b2 : A.cell? ⟨b, 2, none⟩ = some (.int .i64 z1) := by rw [cell_of_heap hb]; rfl
    have b3 : A.cell? ⟨b, 3, none⟩ = some (.int .i64 z2) := by rw [cell_of_heap hb]; rfl
    have b4 : A.cell? ⟨b, 4, none⟩ = some (.string z3) := by rw [cell_of_heap hb]; rfl
    have b5 : A.cell? ⟨b, 5, none⟩ = some (.slice zp zl zc) := by rw [cell_of_heap hb]; rfl
    clear hli he g1 g2 g3 g4 g5 g6 g7 hlt hb hi0 hrec hl2
    simp only [ceV, slV]
    gi_wp2_with (gi_at_builtin; refine wpListIn_append_cells rfl (.tmp 18) (.tmp 20) rfl w.heap.size lv L rfl HM.out.2 A.heap.size (zk, zt, (z1, z2, z3), zp, zl, zc) rfl HM.out.1 hln hbase ?_; intro v' A' own' gr'; obtain ⟨pv, nv, cv, ev⟩ : ∃ p n c, v' = .slice p n c := (by obtain ⟨p, c, h, _⟩ := own_rowC own'; exact ⟨p, _, c, h⟩); subst ev; have hbox := list_box (d := (zk, zt, (z1, z2, z3), zp, zl, zc)) HLI.out.1 gr'; have cO' : A'.cell? ⟨w3.heap.size, 0, none⟩ = some lv := (by rw [cell_of_heap hbox]; rfl); have fO' : A'.frozen? ⟨w3.heap.size, 0, none⟩ = false := frozen_of_heap hbox 0; have HBX : Hid ((OwnC A' w.heap.size (.slice pv nv cv) (L ++ [(zk, zt, (z1, z2, z3), zp, zl, zc)]) ∧ (A.alloc (.cells (ceC (zk, zt, (z1, z2, z3), zp, zl, zc)) 39)).grownBy A' lv.ownBlock) ∧ A'.heap[w3.heap.size]? = some (.cells #[lv] 22 (0, 0))) := ⟨⟨own', gr'⟩, hbox⟩; clear own' gr' hbox cO b0 b1 b2 b3 b4 b5 HM)
    exact list_round HLI.out.1 HLI.out.2.1 HLI.out.2.2.1 HLI.out.2.2.2.1 HLI.out.2.2.2.2.1 HLI.out.2.2.2.2.2 HBX.out.1.1 HBX.out.1.2 HBX.out.2 H4.out.2.2
  case stop => intro D c pre W _ h; exact h.elim
  case done =>
    rintro D xs A hD hS ⟨lv, L, hli⟩ hK
    have cO : A.cell? ⟨w3.heap.size, 0, none⟩ = some lv := by rw [cell_of_heap hli.box]; rfl
    have hall : (cellsL E).take xs.length = cellsL E := List.take_of_length_le (by omega)
    have HF : Hid (Li9 E w w3.heap.size xs lv L A ∧ (cellsL E).take xs.length = cellsL E ∧ w4.heap.size ≤ D) := ⟨hli, hall, hD⟩
    clear hli hall hS hD
    gi_wp2
    go_wp2
    have h9 := HF.out.1.tr (tr7_put9 (T := fun t => t = 3) (o' := .deferred none) hK HF.out.2.2) (by have := H4.out; omega) (by have := H4.out; omega)
    exact list_leave A D _ lv rfl rfl hK ⟨⟨L, h9.own, by rw [← HF.out.2.1]; exact h9.are, h9.asc⟩, h9.below⟩
theorem list9_any {B1 B2 : Nat} (v : Value) (E : List Op5) (w : World) (h : DlE w B1 B2 v E) (h0 : sumB E = 0) (hc : sumR E ≤ 2097152) (hl : (cellsL E).length ≤ 2097152) :
    Calls Tryz.prog 12 #[v] w fun r w' => ∃ lv, r = .returned (.tuple #[lv, .nilIface]) ∧ (∃ D, OwnC w' w.heap.size lv D ∧ AreO w' w.heap.size D (cellsL E)) ∧ Below w.heap.size w w' :=
  (list9_asc v E w h h0 hc hl).mono fun r w' ⟨lv, h1, ⟨D, h2, h3, _⟩, h4⟩ => ⟨lv, h1, ⟨D, h2, h3⟩, h4⟩
end Go.Proofs.YthfpmhnnjjikcabGreatDoor

/- Writes into the lists of cells that are the call's own: what they leave. -/
namespace Go.Proofs.YthfpmhnnjjikcabGreatDoor
open Go Go.RowKit Go.Lib
set_option linter.unusedVariables false
theorem cell_setCells9 {g g' i : Nat} : ∀ (vs : List Value) (o : Nat) (W : World), (g' ≠ g ∨ i < o) → (W.setCells g o vs).cell? ⟨g', i, none⟩ = W.cell? ⟨g', i, none⟩
  | [], _, _, _ => rfl
  | v :: r, o, W, h => by
    rw [World.setCells, cell_setCells9 r (o + 1) _ (by omega)]
    refine World.cell?_setCell_other _ _ _ _ fun e => ?_
    simp only [Addr.mk.injEq, and_true] at e
    omega
theorem heap_setCells9 {g k : Nat} (hk : k ≠ g) : ∀ (vs : List Value) (o : Nat) (W : World), (W.setCells g o vs).heap[k]? = W.heap[k]?
  | [], _, _ => rfl
  | v :: r, o, W => by
    rw [World.setCells, heap_setCells9 hk r (o + 1) _]
    exact Below.heap_setCell _ _ _ _ hk
/-- A key that is written over the keys of cell j. -/
def ovB (j : Nat) : ByteArray := ⟨#[111, 118, 101, 114]⟩ ++ ⟨(enc (97 + j % 20)).toArray⟩
/-- The keys that are written so far: all of the lists ahead of k, those ahead of i of list k. -/
def Kw9 (k i : Nat) (j m : Nat) : Prop := j < k ∨ (j = k ∧ m < i)
structure Ws9 (lo hi ga : Nat) (D : List CV) (k i : Nat) (w W : World) : Prop where
  out : Out lo hi w W
  row : W.heap[ga]? = w.heap[ga]?
  key : ∀ j d m g, D[j]? = some d → m < d.2.2.2.2.1 → Kw9 k i j m → (slV d.2.2.2).ownBlock = some g → W.cell? ⟨g, m * 4, none⟩ = some (.string (ovB j))
theorem Ws9.start {lo hi ga : Nat} {D : List CV} {w : World} : Ws9 lo hi ga D 0 0 w w :=
  ⟨Out.refl _ _ _, rfl, fun j d m g _ _ h _ => by unfold Kw9 at h; omega⟩
theorem Ws9.next {lo hi ga : Nat} {D : List CV} {k : Nat} {d : CV} {w W : World} (h : Ws9 lo hi ga D k d.2.2.2.2.1 w W) (hd : D[k]? = some d) : Ws9 lo hi ga D (k + 1) 0 w W :=
  ⟨h.out, h.row, fun j d' m g hj hm hk hg => h.key j d' m g hj hm (by
    unfold Kw9 at hk ⊢
    by_cases e : j = k
    · subst e
      rw [hd] at hj; cases hj
      exact .inr ⟨rfl, hm⟩
    · omega) hg⟩
theorem Ws9.below {lo hi ga k i : Nat} {D : List CV} {w W W' : World} (h : Ws9 lo hi ga D k i w W) (hg : ga < W.heap.size) (b : Below W.heap.size W W') : Ws9 lo hi ga D k i w W' :=
  ⟨h.out.trans (Out.of_below b), (b.block ga hg).trans h.row, fun j d m g hj hm hk hgb => by
    have h1 := h.key j d m g hj hm hk hgb
    exact (b.cell (lt_of_cell h1)).trans h1⟩
/-- The lists lie apart, and can be written. -/
structure La9 (lo hi ga : Nat) (D : List CV) (w : World) : Prop where
  at' : ∀ d ∈ D, AtS w lo hi (slV d.2.2.2) d.2.2.2.2.1 ∧ d.2.2.2.2.1 ≤ 1048576
  asc : Asc9 D
  row : ∃ cur : Array Value, w.heap[ga]? = some (.cells cur 39 (0, 0))
theorem Asc9.ne {D : List CV} (h : Asc9 D) {j k : Nat} {d d' : CV} {g : Nat} (hj : D[j]? = some d) (hk : D[k]? = some d') (h1 : (slV d.2.2.2).ownBlock = some g) (h2 : (slV d'.2.2.2).ownBlock = some g) : j = k := by
  obtain ⟨l1, rfl⟩ := List.getElem?_eq_some_iff.1 hj
  obtain ⟨l2, rfl⟩ := List.getElem?_eq_some_iff.1 hk
  have key := List.pairwise_iff_getElem.1 h
  rcases Nat.lt_trichotomy j k with h3 | h3 | h3
  · have := key j k l1 l2 h3 g g h1 h2; omega
  · exact h3
  · have := key k j l2 l1 h3 g g h2 h1; omega
/-- A list's own block. -/
theorem La9.block {lo hi ga : Nat} {D : List CV} {w : World} (h : La9 lo hi ga D w) {d : CV} (hd : d ∈ D) (h0 : 0 < d.2.2.2.2.1) : ∃ (g c : Nat) (cur : Array Value), slV d.2.2.2 = .slice (some ⟨g, 0, none⟩) d.2.2.2.2.1 c ∧ lo ≤ g ∧ g < hi ∧ w.heap[g]? = some (.cells cur 45 (0, 0)) ∧ d.2.2.2.2.1 ≤ c ∧ cur.size = c * 4 ∧ g ≠ ga := by
  rcases (h.at' d hd).1 with ⟨_, h1⟩ | ⟨g, c, cur, h1, h2, h3, h4, h5, h6⟩
  · omega
  · refine ⟨g, c, cur, h1, h2, h3, h4, h5, h6, fun e => ?_⟩
    obtain ⟨cur', hc⟩ := h.row
    rw [← e, h4] at hc
    cases hc
theorem Ws9.set {lo hi ga : Nat} {D : List CV} {k i : Nat} {d : CV} {w W : World} (h : Ws9 lo hi ga D k i w W) (l : La9 lo hi ga D w) (hd : D[k]? = some d) (him : i < d.2.2.2.2.1) {g c : Nat} (e : slV d.2.2.2 = .slice (some ⟨g, 0, none⟩) d.2.2.2.2.1 c) : Ws9 lo hi ga D k (i + 1) w (W.setCell ⟨g, i * 4, none⟩ (.string (ovB k))) := by
  obtain ⟨g', c', cur, e1, e2, e3, e4, e5, e6, e7⟩ := l.block (List.mem_of_getElem? hd) (by omega)
  rw [e] at e1
  simp only [Value.slice.injEq, Option.some.injEq, Addr.mk.injEq, and_true, true_and] at e1
  obtain ⟨rfl, rfl⟩ := e1
  obtain ⟨cur', k1, k2⟩ := h.out.shape g cur _ _ e4 e3
  refine ⟨h.out.setCell g _ _ e2 e3, (Below.heap_setCell _ _ _ _ (Ne.symm e7)).trans h.row, fun j d' m g'' hj hm hk hg => ?_⟩
  by_cases hh : j = k ∧ m = i
  · obtain ⟨rfl, rfl⟩ := hh
    rw [hd] at hj; cases hj
    rw [e] at hg; cases hg
    rw [cell_of_heap (heap_set_at W g _ _ cur' _ _ k1)]
    have : m * 4 < cur'.size := by rw [k2, e6]; omega
    simp [this]
  · have hne : ¬ (g'' = g ∧ m * 4 = i * 4) := fun ⟨a, b⟩ => hh ⟨l.asc.ne hj hd hg (by rw [e, a]; rfl), by omega⟩
    rw [World.cell?_setCell_other _ _ _ _ (fun e => by simp only [Addr.mk.injEq, and_true] at e; exact hne ⟨e.1.symm, e.2.symm⟩)]
    exact h.key j d' m g'' hj hm (by unfold Kw9 at hk ⊢; omega) hg
/-- append(such a list, one pair): the pairs ahead stand. -/
theorem wpList_append_own9 {w u : World} {ops : Array Oper} {rest : List Oper} {o : Oper} {a : Act} {Q : Exit → Act → World → Prop} (hgd : o.guard = none) (s x : Operand)
    (ho : o.op = .call { callee := .builtin .append, args := #[s, x], argTypes := #[37, 37] })
    (lo hi ga k : Nat) (D : List CV) (d : CV) (hd : D[k]? = some d) (l : La9 lo hi ga D u) (hW : Ws9 lo hi ga D (k + 1) 0 u w) (hs : a.eval s = slV d.2.2.2)
    (b c : Nat) (q : A2) (hx : a.eval x = .slice (some ⟨b, 0, none⟩) 1 c) (hM : PairAt w b 0 q)
    (h : ∀ p' c' w', Ws9 lo hi ga D (k + 1) 0 u w' → wpList Tryz.prog ops Q rest (a.put o.dst (.slice p' (d.2.2.2.2.1 + 1) c')) w') : wpList Tryz.prog ops Q (o :: rest) a w := by
  obtain ⟨i, z, hi', hz, hz1, hz2, hz3⟩ := infoAt
  have hnew : ∀ (j : Nat) (u : Value), (cellsA [q])[j]? = some u → w.cell? ((⟨b, 0, none⟩ : Addr).add j) = some u := fun j u hu => by
    obtain ⟨k, q', hq, hh⟩ := cellsA_inv [q] j u hu
    have hk : k = 0 := by rcases k with _ | k; rfl; simp at hq
    subst hk
    obtain rfl : q = q' := by simpa using hq
    obtain ⟨h0, h1, h2, h3⟩ := hM
    rw [Addr.add_lit]
    rcases hh with ⟨rfl, rfl⟩ | ⟨rfl, rfl⟩ | ⟨rfl, rfl⟩ | ⟨rfl, rfl⟩
    · exact h0
    · exact h1
    · exact h2
    · exact h3
  have grows : ∀ (v' : Value) (w' : World) (xs : List Value), w'.ownsRow w.heap.size 45 4 v' (d.2.2.2.2.1 + 1) xs → w.grownBy w' none → wpList Tryz.prog ops Q rest (a.put o.dst v') w' := fun v' w' xs hw gr => by
    have hv : ∃ p c, v' = .slice p (d.2.2.2.2.1 + 1) c := by
      rcases hw.2 with ⟨_, h0⟩ | ⟨g, cap, cur, h1, _⟩
      · omega
      · exact ⟨_, _, h1⟩
    obtain ⟨p', c', rfl⟩ := hv
    refine h p' c' w' ⟨out_grownv hW.out gr, ?_, fun j d' m g hj hm hk hg => ?_⟩
    · obtain ⟨cur, hc⟩ := l.row
      have h1 := hW.row.trans hc
      exact (gr.block ga (Array.getElem?_eq_some_iff.1 h1).1 (by simp)).trans hW.row
    · have h1 := hW.key j d' m g hj hm hk hg
      exact (World.cell?_of_block (a := ⟨g, m * 4, none⟩) (gr.block g (lt_of_cell h1) (by simp))).trans h1
  obtain ⟨hat, h20⟩ := l.at' d (List.mem_of_getElem? hd)
  obtain ⟨n, hn⟩ : ∃ n, d.2.2.2.2.1 = n := ⟨_, rfl⟩
  rw [hn] at hat h20 grows h
  rcases hat with ⟨hv, rfl⟩ | ⟨g, cap, cur, hv, h2, h3, h4, h5, h6⟩
  · exact wpList_append_grows w hgd s x _ ho 45 i z 4 48 Tryz.underlying37 hi' hz hz1 hz2 hz3 (by decide) none 0 0 [] (by rw [hs, hv]) (fun _ => ⟨rfl, rfl⟩) rfl (fun b hb => (by cases hb)) ⟨b, 0, none⟩ 1 c (cellsA [q]) hx rfl hnew (cellsA_one _) (by decide) (by unfold maxLen; omega) (by omega) (fun v' w' r1 r2 => grows v' w' _ r1 r2)
  · obtain ⟨cu, h4', h6'⟩ := hW.out.shape g cur _ _ h4 h3
    refine wpList_append_arg w hgd s x _ ho 45 i z 4 48 Tryz.underlying37 hi' hz hz1 hz2 hz3 (by decide) g 0 n cap (cu.toList.take (n * 4)) (by rw [hs, hv]) (by rw [List.length_take, Array.length_toList, h6', h6]; omega) (fun j u hu => ?_) ⟨b, 0, none⟩ 1 c (cellsA [q]) hx rfl hnew (cellsA_one _) (fun hr j hj => ?_) (by unfold maxLen; omega) (by omega) (fun hr => ?_) (fun hr v' w' r1 r2 => grows v' w' _ r1 r2)
    · have hj := (List.getElem?_eq_some_iff.1 hu).1
      rw [List.getElem?_take] at hu
      split at hu
      · rw [Nat.zero_add]
        simp only [World.cell?, h4']
        simpa using hu
      · cases hu
    · have hj' : j < 4 := by simpa [cellsA] using hj
      rw [Nat.zero_add]
      exact ⟨by obtain ⟨u, hu⟩ := cell_atv h4' (n * 4 + j) (by omega); rw [hu]; rfl, frozen_of_row w g _ cu _ h4'⟩
    · have hga : ga ≠ g := fun e => by
        obtain ⟨cur', hc⟩ := l.row
        rw [e, h4] at hc
        cases hc
      refine h _ _ _ ⟨out_setCellsv h2 h3 _ _ _ hW.out, (heap_setCells9 hga _ _ _).trans hW.row, fun j d' m g' hj hm hk hg => ?_⟩
      have h1 := hW.key j d' m g' hj hm hk hg
      rw [cell_setCells9 _ _ _ ?_]
      · exact h1
      · by_cases e : g' = g
        · refine .inr ?_
          have : j = k := l.asc.ne hj hd hg (by rw [hv, e]; rfl)
          subst this
          rw [hd] at hj; cases hj
          omega
        · exact .inl e
theorem owns_out9 {lo hi B T : Nat} {w w' : World} {e : TypeId} {sz n : Nat} {v : Value} {xs : List Value} (o : w.ownsRow B e sz v n xs) (ht : ∀ k, v.ownBlock = some k → k < T) (u : Out lo hi w w') (d : hi ≤ B ∨ T ≤ lo) : w'.ownsRow B e sz v n xs :=
  owns_same o fun k hk => by
    obtain ⟨h1, cur, h2⟩ := owns_block o k hk
    have := ht k hk
    exact u.block k (Array.getElem?_eq_some_iff.1 h2).1 (by omega)
/-- Cells with lists between two marks, the row itself too. -/
structure CeI (w : World) (B T : Nat) (v : Value) (D : List CV) (A : List C5) : Prop where
  own : OwnC w B v D
  top : ∀ k, v.ownBlock = some k → k < T
  are : All2 (fun (d : CV) (e : C5) => d.1 = e.1 ∧ d.2.1 = e.2.1 ∧ d.2.2.1 = e.2.2.1 ∧ InA w B T (slV d.2.2.2) e.2.2.2) D A
theorem CeI.new {w : World} {B : Nat} {v : Value} {D : List CV} {A : List C5} (h : OwnC w B v D) (a : AreO w B D A) : CeI w B w.heap.size v D A :=
  ⟨h, fun k hk => by obtain ⟨_, cur, hc⟩ := owns_block h k hk; exact (Array.getElem?_eq_some_iff.1 hc).1, All2.imp (fun d e h => ⟨h.1, h.2.1, h.2.2.1, InA.new h.2.2.2⟩) a⟩
theorem CeI.below {w w' : World} {B T : Nat} {v : Value} {D : List CV} {A : List C5} (h : CeI w B T v D A) (b : Below w.heap.size w w') : CeI w' B T v D A :=
  ⟨owns_below h.own b, h.top, All2.imp (fun d e h => ⟨h.1, h.2.1, h.2.2.1, h.2.2.2.below b⟩) h.are⟩
theorem CeI.out {w w' : World} {B T lo hi : Nat} {v : Value} {D : List CV} {A : List C5} (h : CeI w B T v D A) (u : Out lo hi w w') (d : hi ≤ B ∨ T ≤ lo) : CeI w' B T v D A :=
  ⟨owns_out9 h.own h.top u d, h.top, All2.imp (fun _ _ h => ⟨h.1, h.2.1, h.2.2.1, h.2.2.2.out u d.symm⟩) h.are⟩
theorem CeI.areO {w : World} {B T : Nat} {v : Value} {D : List CV} {A : List C5} (h : CeI w B T v D A) : AreO w B D A := All2.imp (fun d e h => ⟨h.1, h.2.1, h.2.2.1, h.2.2.2.own⟩) h.are
theorem CeI.ceH {w : World} {B T : Nat} {v : Value} {D : List CV} {A : List C5} (h : CeI w B T v D A) (hn : ∀ e ∈ A, e.2.2.2.length ≤ 1048576) : CeH w B T v D :=
  ⟨h.own, h.top, fun d hd => by
    obtain ⟨k, hk⟩ := List.getElem?_of_mem hd
    obtain ⟨e, he, hr⟩ := forall2_get h.are k d hk
    refine ⟨AtS.ina hr.2.2.2, ?_⟩
    obtain ⟨q, c, e1, _⟩ := hr.2.2.2.row
    simp only [slV, Value.slice.injEq] at e1
    rw [e1.2.1]
    exact hn e (List.mem_of_getElem? he)⟩
theorem AtS.shape {w w' : World} {lo hi a b : Nat} {s : Value} {n : Nat} (h : AtS w lo hi s n) (o : Out a b w w') (hb : hi ≤ b) : AtS w' lo hi s n := by
  rcases h with h | ⟨g, c, cur, h1, h2, h3, h4, h5, h6⟩
  · exact .inl h
  · obtain ⟨cur', k1, k2⟩ := o.shape g cur _ _ h4 (by omega)
    exact .inr ⟨g, c, cur', h1, h2, h3, k1, h5, by rw [k2, h6]⟩
end Go.Proofs.YthfpmhnnjjikcabGreatDoor

/- cells.Check; the document's Check of a cell. -/
namespace Go.Proofs.YthfpmhnnjjikcabGreatDoor
open Go Go.RowKit Go.Lib
set_option linter.unusedVariables false
theorem insE_emb (t : ByteArray) (v : P3) (A : List A2) : opE ⟨2, t, v, 0, A⟩ = if t.toList.isEmpty = true ∨ 64 < t.size then 6 else if brk t.data.toList ≠ t.size then 1 else if chkP v ≠ 0 then chkP v else listE false none A := by
  unfold opE
  rw [if_pos (Or.inr rfl)]
  unfold insE
  by_cases h : t.toList.isEmpty = true ∨ 64 < t.size
  · have hf : fldE ⟨2, t, v, 0, A⟩ = 6 := by
      unfold fldE
      rw [if_neg (by simp), if_neg (by simp), if_pos ⟨rfl, h⟩]
    rw [hf, if_pos h]; rfl
  · have hf : fldE ⟨2, t, v, 0, A⟩ = 0 := by
      unfold fldE
      rw [if_neg (by simp), if_neg (by simp), if_neg (fun hh => h hh.2)]
    rw [hf, if_neg h]; rfl
theorem size_emp (t : ByteArray) : t.toList.isEmpty = true ↔ t.size = 0 := by
  rw [toList_data, List.isEmpty_iff_length_eq_zero, size_toList]
set_option maxHeartbeats 4000000 in
theorem checkR9_any {I : List Nat} {a : Nat → Addr} (e : C5) (p : Option Addr) (l c : Nat) (w : World) (hS : Std I a w) (hR : RN w (.slice p l c) e.2.2.2) (hF : FitC e) :
    Calls Tryz.prog 46 #[ceP e (.slice p l c)] w fun r w' => r = .returned (.int .i64 (celE e)) ∧ Below w.heap.size w w' := by
  have b0 := (Below.refl w.heap.size w).alloc (Nat.le_refl _) (.cells (ceA e (.slice p l c)) 39)
  have hn := hF.n
  have cA : Hid (∀ W, Below w.heap.size w W → Calls Tryz.prog 82 #[.slice p l c, .bool false] W fun r w' => r = .returned (.int .i64 (listE false none e.2.2.2)) ∧ Below W.heap.size W w') := fun W hW => ref_check (.slice p l c) e.2.2.2 false W (hS.below hW) (hR.below hW).row hF.A (by omega)
  have cU : Hid (∀ W, Below w.heap.size w W → Calls Tryz.prog 80 #[.string e.2.1] W fun r w' => r = .returned (.bool (decide (brk e.2.1.data.toList = e.2.1.size))) ∧ Below W.heap.size W w') := fun W hW => valid_any e.2.1 W (hS.below hW) (by have := hF.t; omega)
  have cV : Hid (∀ W, Below w.heap.size w W → Calls Tryz.prog 81 #[pl e.2.2.1.1 e.2.2.1.2.1 e.2.2.1.2.2] W fun r w' => r = .returned (.int .i64 (chkP e.2.2.1)) ∧ Below W.heap.size W w') := fun W hW => ref_chk _ _ _ W (by have := hF.v; omega)
  have hB5 : Hid (∀ w2, Below (w.alloc (.cells (ceA e (.slice p l c)) 39)).heap.size (w.alloc (.cells (ceA e (.slice p l c)) 39)) w2 → w2.cell? ⟨w.heap.size, 0, none⟩ = some (.int .i32 e.1) ∧ w2.cell? ⟨w.heap.size, 1, none⟩ = some (.string e.2.1) ∧ w2.cell? ⟨w.heap.size, 2, none⟩ = some (.int .i64 e.2.2.1.1) ∧ w2.cell? ⟨w.heap.size, 3, none⟩ = some (.int .i64 e.2.2.1.2.1) ∧ w2.cell? ⟨w.heap.size, 4, none⟩ = some (.string e.2.2.1.2.2) ∧ w2.cell? ⟨w.heap.size, 5, none⟩ = some (.slice p l c) ∧ Below w.heap.size w w2) := fun w2 hb => by
    have k0 : ∀ j, (w2.cell? ⟨w.heap.size, j, none⟩) = (w.alloc (.cells (ceA e (.slice p l c)) 39)).cell? ⟨w.heap.size, j, none⟩ := fun j => hb.cell (p := ⟨w.heap.size, j, none⟩) (by simp)
    refine ⟨?_, ?_, ?_, ?_, ?_, ?_, b0.trans (hb.mono b0.size)⟩
    all_goals (rw [k0]; simp)
  have hin : Hid (FitC e) := hF
  clear hS hR hF hn
  have hbox : ∀ w2, Below (w.alloc (.cells (ceA e (.slice p l c)) 39)).heap.size (w.alloc (.cells (ceA e (.slice p l c)) 39)) w2 → _ := hB5.out
  clear hB5
  have HB5 : Hid _ := hbox
  clear hbox
  by_cases hk : e.1 = -1
  · have hnb : ¬ badC e := fun h => h.1 hk
    have hop : opOf e = ⟨2, e.2.1, e.2.2.1, 0, e.2.2.2⟩ := if_pos hk
    rw [celE_op hnb, hop, insE_emb]
    obtain ⟨k, t, ⟨x, n, u⟩, A⟩ := e
    simp only at hk
    subst hk
    simp only [ceA] at b0 cA cU cV HB5 ⊢
    have ht := hin.out.t
    simp only at ht
    clear hnb hop hin
    by_cases h6 : t.toList.isEmpty = true ∨ 64 < t.size
    · rw [if_pos h6]
      by_cases h61 : (t.size : Int) < 1
      · clear h6 cA cU cV HB5
        go_enter Tryz.func46, Tryz.ntmps46
        go_wp2
        go_ret
        exact ⟨rfl, b0⟩
      · have h62 : (t.size : Int) > 64 := by
          rcases h6 with h | h
          · rw [size_emp] at h; omega
          · omega
        clear h6 cA cU cV HB5
        go_enter Tryz.func46, Tryz.ntmps46
        go_wp2
        go_ret
        exact ⟨rfl, b0⟩
    · rw [if_neg h6]
      have h61 : ¬ (t.size : Int) < 1 := by
        intro h
        exact h6 (Or.inl ((size_emp t).2 (by omega)))
      have h62 : ¬ (t.size : Int) > 64 := by
        intro h
        exact h6 (Or.inr (by omega))
      have cu := cU.out _ b0
      by_cases h1 : brk t.data.toList = t.size
      · rw [if_neg (by simpa using h1)]
        rw [decide_eq_true h1] at cu
        obtain ⟨z, hz⟩ : ∃ z, chkP (x, n, u) = z := ⟨_, rfl⟩
        simp only [hz] at cV ⊢
        cases z with
        | zero =>
          rw [if_neg (by simp)]
          obtain ⟨L, hL⟩ : ∃ x, listE false none A = x := ⟨_, rfl⟩
          rw [hL] at cA ⊢
          clear h6 h1 hz cU hL
          go_enter Tryz.func46, Tryz.ntmps46
          go_wp2_with fail
          refine cu.mono ?_; rintro r w2 ⟨rfl, b2⟩
          obtain ⟨y0, y1, y2, y3, y4, y5, bw2⟩ := HB5.out w2 b2
          have cv := cV.out w2 bw2
          clear cu cV
          go_wp2_with fail
          refine cv.mono ?_; rintro r w3 ⟨rfl, b3⟩
          have b23 := b2.trans (b3.mono b2.size)
          clear y0 y1 y2 y3 y4 y5 bw2 cv b2 b3
          obtain ⟨y0, y1, y2, y3, y4, y5, bw3⟩ := HB5.out w3 b23
          have ca := cA.out w3 bw3
          clear cA HB5 b23
          go_wp2_with fail
          refine ca.mono ?_; rintro r w4 ⟨rfl, b4⟩
          have bw4 := bw3.trans (b4.mono bw3.size)
          clear ca b4
          go_wp2
          go_ret
          exact ⟨rfl, bw4⟩
        | succ z =>
          rw [if_pos (by simp)]
          have hz1 : (((z + 1 : Nat) : Int) != 0) = true := by rw [bne_iff_ne]; omega
          clear h6 h1 hz cU cA
          obtain ⟨zz, hzz⟩ : ∃ zz : Int, ((z + 1 : Nat) : Int) = zz := ⟨_, rfl⟩
          rw [hzz] at cV hz1 ⊢
          clear hzz
          go_enter Tryz.func46, Tryz.ntmps46
          go_wp2_with fail
          refine cu.mono ?_; rintro r w2 ⟨rfl, b2⟩
          obtain ⟨y0, y1, y2, y3, y4, y5, bw2⟩ := HB5.out w2 b2
          have cv := cV.out w2 bw2
          clear cu cV
          go_wp2_with fail
          refine cv.mono ?_; rintro r w3 ⟨rfl, b3⟩
          have bw3 := bw2.trans (b3.mono bw2.size)
          clear cv b3
          go_wp2
          go_ret
          exact ⟨rfl, bw3⟩
      · rw [if_pos h1]
        rw [decide_eq_false h1] at cu
        clear h6 h1 cU cA cV
        go_enter Tryz.func46, Tryz.ntmps46
        go_wp2_with fail
        refine cu.mono ?_; rintro r w2 ⟨rfl, b2⟩
        have bw2 := b0.trans (b2.mono b0.size)
        clear cu
        go_wp2
        go_ret
        exact ⟨rfl, bw2⟩
  · by_cases hs : isScal e.1
    · obtain ⟨k, t, ⟨x, n, u⟩, A⟩ := e
      simp only at hk hs
      have gd := fun op x' y' w => guard_pl op x' y' (x, n, u) (0, 0, ⟨#[]⟩) w
      have hk0 : k ≥ 0 := by unfold isScal at hs; omega
      have hk1 : k ≤ 1114111 := by unfold isScal at hs; omega
      cases he : t.toList.isEmpty with
      | true =>
        have ht : t = ⟨#[]⟩ := by have := (emp_iff (t := t)).1 he; exact this
        by_cases hz : (x, n, u) = z0
        · have hnb : ¬ badC (k, t, (x, n, u), A) := fun h => by
            rcases h.2 with h | h | h
            · exact h hs
            · exact h ht
            · exact h hz
          have hne := neq_pl (x, n, u) (0, 0, ⟨#[]⟩) false (by rw [hz]; show (!samP z0 z0) = false; rw [samP_self]; rfl)
          rw [celE_op hnb]
          have hE : opE (opOf (k, t, (x, n, u), A)) = listE false none A := by
            obtain ⟨r, rfl, hr⟩ := scal_of hs
            rw [ht, hz, opOf_scal hr, opE_scal hr]
          rw [hE]
          simp only [ceA] at b0 cA HB5 ⊢
          obtain ⟨L, hL⟩ : ∃ x, listE false none A = x := ⟨_, rfl⟩
          rw [hL] at cA ⊢
          have ca := cA.out _ b0
          clear hnb hz hE hL cU cV hin cA ht
          rcases hs with ⟨_, h2⟩ | ⟨h2, _⟩
          · go_enter Tryz.func46, Tryz.ntmps46
            go_wp2_with fail
            refine ca.mono ?_; rintro r w2 ⟨rfl, b2⟩
            have bw2 := b0.trans (b2.mono b0.size)
            clear ca
            go_wp2
            go_ret
            exact ⟨rfl, bw2⟩
          · have h3 : ¬ k < 55296 := by omega
            have h4 : k > 57343 := by omega
            go_enter Tryz.func46, Tryz.ntmps46
            go_wp2_with fail
            refine ca.mono ?_; rintro r w2 ⟨rfl, b2⟩
            have bw2 := b0.trans (b2.mono b0.size)
            clear ca
            go_wp2
            go_ret
            exact ⟨rfl, bw2⟩
        · have hb : badC (k, t, (x, n, u), A) := ⟨hk, Or.inr (Or.inr hz)⟩
          have hne := neq_pl (x, n, u) (0, 0, ⟨#[]⟩) true (by show (!samP (x, n, u) z0) = true; rw [samP_ne hz]; rfl)
          rw [celE_bad hb]
          simp only [ceA] at b0
          clear hb hz cU cV cA hin HB5 ht
          rcases hs with ⟨_, h2⟩ | ⟨h2, _⟩
          · go_enter Tryz.func46, Tryz.ntmps46
            go_wp2
            go_ret
            exact ⟨rfl, b0⟩
          · have h3 : ¬ k < 55296 := by omega
            have h4 : k > 57343 := by omega
            go_enter Tryz.func46, Tryz.ntmps46
            go_wp2
            go_ret
            exact ⟨rfl, b0⟩
      | false =>
        have hb : badC (k, t, (x, n, u), A) := ⟨hk, Or.inr (Or.inl (fun h => by simp only at h; have h2 := (emp_iff (t := t)).2 h; rw [he] at h2; cases h2))⟩
        rw [celE_bad hb]
        simp only [ceA] at b0
        clear hb cU cV cA hin HB5
        rcases hs with ⟨_, h2⟩ | ⟨h2, _⟩
        · go_enter Tryz.func46, Tryz.ntmps46
          go_wp2
          go_ret
          exact ⟨rfl, b0⟩
        · have h3 : ¬ k < 55296 := by omega
          have h4 : k > 57343 := by omega
          go_enter Tryz.func46, Tryz.ntmps46
          go_wp2
          go_ret
          exact ⟨rfl, b0⟩
    · rw [celE_bad ⟨hk, Or.inl hs⟩]
      obtain ⟨k, t, ⟨x, n, u⟩, A⟩ := e
      simp only at hk hs
      simp only [ceA] at b0
      have hk2 : (k != -1) = true := by rw [bne_iff_ne]; exact hk
      clear cU cV cA hin HB5
      by_cases h1 : k < 0
      · have h2 : ¬ k ≥ 0 := by omega
        clear hs hk
        go_enter Tryz.func46, Tryz.ntmps46
        go_wp2
        go_ret
        exact ⟨rfl, b0⟩
      · by_cases h2 : k ≤ 1114111
        · have h3 : ¬ k < 55296 := by unfold isScal at hs; omega
          have h4 : ¬ k > 57343 := by unfold isScal at hs; omega
          have h5 : k ≥ 0 := by omega
          clear hs hk
          go_enter Tryz.func46, Tryz.ntmps46
          go_wp2
          go_ret
          exact ⟨rfl, b0⟩
        · have h5 : k ≥ 0 := by omega
          clear hs hk
          go_enter Tryz.func46, Tryz.ntmps46
          go_wp2
          go_ret
          exact ⟨rfl, b0⟩
end Go.Proofs.YthfpmhnnjjikcabGreatDoor

/- The document's deltas: Canonical: the canonical list of operations. -/
namespace Go.Proofs.YthfpmhnnjjikcabGreatDoor
open Go Go.RowKit Go.Lib
set_option linter.unusedVariables false
set_option maxHeartbeats 1000000 in
theorem plain6_any (o : Op5) (p : Option Addr) (l c : Nat) (w : World) (hl : l = o.A.length) : Calls Tryz.prog 117 #[opV o (.slice p l c)] w fun r w' => r = .returned (.bool (plainR o)) ∧ Below w.heap.size w w' := by
  have hp : plainR o = (o.k == 3 && decide (l = 0)) := by
    unfold plainR
    rw [hl]
    cases o.A <;> simp
  rw [hp]
  obtain ⟨k, t, ⟨x, n, u⟩, cc, A⟩ := o
  simp only
  clear hp hl
  by_cases k3 : k = 3
  · subst k3
    have hz : ((l : Int) == 0) = decide (l = 0) := by rw [Bool.eq_iff_iff]; simp
    go_enter Tryz.func117, Tryz.ntmps117
    go_wp2
    go_ret
    exact ⟨by simp, by go_grown⟩
  · have e3 : (k == 3) = false := by simpa using k3
    rw [e3]
    go_enter Tryz.func117, Tryz.ntmps117
    go_wp2
    go_ret
    exact ⟨rfl, by go_grown⟩
/-- push, whatever comes. -/
theorem push6_any {w0 : World} {B : Nat} (v : Value) (D : List OV) (P : List Op5) (o : Op5) (sp : Option Addr) (sl sc : Nat) (w : World) (hB : B ≤ w.heap.size) (hw : Below w0.heap.size w0 w) (hv : OwnO w B v D) (hD : ReD w0 D P) (ho : RN w0 (.slice sp sl sc) o.A) (hl : P.length ≤ 4194304) (hP : ∀ x ∈ P, Wel x ∧ x.A.length ≤ 2097152 ∧ x.t.size ≤ 8388608 ∧ x.c ≤ 2199023255552) (how : Wel o) (hn2 : o.A.length ≤ 2097152) (hot : o.t.size ≤ 8388608) (hoc : o.c ≤ 2199023255552) :
    Calls Tryz.prog 116 #[v, opV o (.slice sp sl sc)] w fun e w' => PushR w0 B w w' v e (pushL P o) := by
  rcases List.eq_nil_or_concat P with rfl | ⟨F, x, rfl⟩
  · exact push6_nil v D [] o sp sl sc w hB hw hv hD ho (by simp) rfl
  · rw [List.concat_eq_append] at hD hl hP ⊢
    obtain ⟨hx1, hx2, hx3, hx4⟩ := hP x (List.mem_append_right _ (List.mem_singleton.2 rfl))
    by_cases h1 : x.k ≠ o.k ∨ o.k = 2
    · rw [push_apart (by rcases h1 with h | h; exact Or.inl h; exact Or.inr (Or.inl h))]
      exact push6_kind v D _ o sp sl sc w hB hw hv hD ho (by omega) F x rfl h1
    · have hk : x.k = o.k := Decidable.byContradiction fun h => h1 (Or.inl h)
      have h2 : o.k ≠ 2 := fun h => h1 (Or.inr h)
      have hcx : 0 ≤ x.c := by
        rcases hx1.kinds with h | h | h | h
        · rw [(hx1.resolve_right (by rintro (⟨a, _⟩ | ⟨a, _⟩) <;> omega)).1.count]; omega
        · omega
        · have := hx1.count (Or.inl h); omega
        · have := hx1.count (Or.inr h); omega
      have hco : 0 ≤ o.c := by
        rcases how.kinds with h | h | h | h
        · rw [(how.resolve_right (by rintro (⟨a, _⟩ | ⟨a, _⟩) <;> omega)).1.count]; omega
        · omega
        · have := how.count (Or.inl h); omega
        · have := how.count (Or.inr h); omega
      have h := push6_same v D _ o sp sl sc w hB hw hv hD ho (by omega) F x rfl hk h2 hx2 hn2 (by omega) ⟨hcx, hco, by omega⟩
      by_cases hA : x.A = o.A
      · rw [if_pos hA] at h
        rw [push_join (by rintro (e | e | e); exact e hk; exact h2 e; exact e hA)]
        exact h
      · rw [if_neg hA] at h
        rw [push_apart (Or.inr (Or.inr hA))]
        exact h
end Go.Proofs.YthfpmhnnjjikcabGreatDoor

/- vellumhand.Make, Is; vellumlaw06's gone, text, large, lives. -/
namespace Go.Proofs.YthfpmhnnjjikcabGreatDoor
open Go Go.RowKit Go.Lib
set_option linter.unusedVariables false
/-- Lists that the calls read. -/
structure OkR (E : List Op5) : Prop where
  n : ∀ o ∈ E, o.A.length ≤ 1048576
  len : E.length ≤ 2097152
set_option maxHeartbeats 1000000 in
theorem is_any {B1 B2 : Nat} (d v : Value) (E F : List Op5) (w : World) (h : DelV w B1 B2 d E) (hg : ∀ o ∈ E, opE o = 0) (hE : OkR E) (hv : ReO w v F) (hF : OkR F) :
    Calls Tryz.prog 19 #[d, v] w fun r w' => r = .returned (.bool (decide (E = F))) ∧ Below w.heap.size w w' := by
  have c1 := ops_any d E w h hg (fun o ho => by have := hE.n o ho; omega) (by have := hE.len; omega)
  have c2 : Hid (∀ W v', Below w.heap.size w W → ReO W v' E → Calls Tryz.prog 54 #[v', v] W fun r w' => r = .returned (.bool (decide (E = F))) ∧ Below W.heap.size W w') := fun W v' hW h' => same6_any v' v E F W h' (hv.below hW) hE.len hF.len hE.n hF.n
  have c3 : Hid (∀ W, Below w.heap.size w W → Calls Tryz.prog 55 #[d] W fun e w' => e = .returned (.int .i64 E.length) ∧ Below W.heap.size W w') := fun W hW => count_any5 d E W (h.below hW)
  obtain ⟨q, pv, PL, rfl, _⟩ := h
  obtain ⟨D, ⟨p, cap, rfl, _, _, _⟩, hre⟩ := hv
  have hl := forall2_len hre
  rw [hl] at c2 ⊢
  obtain ⟨R, hR⟩ : ∃ x, decide (E = F) = x := ⟨_, rfl⟩
  rw [hR] at c2 ⊢
  have hlen : R = true → ((E.length : Int) == (F.length : Int)) = true := fun h => by
    rw [h] at hR
    rw [of_decide_eq_true hR]; simp
  clear hg hE hF hre hl hR
  go_enter Tryz.func19, Tryz.ntmps19
  go_wp2_with fail
  refine c1.mono ?_; rintro r w2 ⟨v', rfl, hco, hb2⟩
  have c4 := c2.out w2 v' hb2 hco.re
  clear c1 c2 hco
  go_wp2_with fail
  refine c4.mono ?_; rintro r w3 ⟨rfl, hb3⟩
  have b3 := hb2.trans (hb3.mono hb2.size)
  clear c4 hb2 hb3
  cases R with
  | true =>
    have c5 := c3.out w3 b3
    have hl2 := hlen rfl
    clear c3 hlen
    go_wp2_with fail
    refine c5.mono ?_; rintro r w4 ⟨rfl, hb4⟩
    have b4 := b3.trans (hb4.mono b3.size)
    clear c5 b3 hb4
    go_wp2
    go_ret
    exact ⟨rfl, b4⟩
  | false =>
    clear c3 hlen
    go_wp2
    go_ret
    exact ⟨rfl, b3⟩
/-- A text to insert. -/
def txtO (t : ByteArray) : Op5 := ⟨1, t, z0, 0, []⟩
end Go.Proofs.YthfpmhnnjjikcabGreatDoor

/- vellumlaw06.lives answers true. -/
namespace Go.Proofs.YthfpmhnnjjikcabGreatDoor
open Go Go.RowKit Go.Lib
set_option linter.unusedVariables false
/-- A row of operations laid at once. -/
theorem row_blk {w : World} {b : Nat} {D : List OV} (h : w.heap[b]? = some (.cells (cellsO D).toArray 74 (0, 0))) : RowO w (.slice (some ⟨b, 0, none⟩) D.length D.length) D := by
  refine ⟨some ⟨b, 0, none⟩, D.length, rfl, Nat.le_refl _, fun h => (by cases h), fun j d hd => ⟨b, 0, rfl, ?_⟩⟩
  obtain ⟨k0, k1, k2, k3, k4, k5, k6⟩ := cellsO_get D j d hd
  have e : ∀ i u, (cellsO D)[i]? = some u → w.cell? ⟨b, i, none⟩ = some u := fun i u hu => by
    rw [cell_of_heap h]
    rw [List.getElem?_toArray]
    exact hu
  rw [Nat.zero_add]
  exact ⟨e _ _ k0, e _ _ k1, e _ _ k2, e _ _ k3, e _ _ k4, e _ _ k5, e _ _ k6⟩
/-- An operation without attributes, as it lies in memory. -/
abbrev ovN (o : Op5) : OV := (o.k, o.t, o.v, o.c, (none, 0, 0))
theorem re_blk {w : World} {b : Nat} {E : List Op5} (h : w.heap[b]? = some (.cells (cellsO (E.map ovN)).toArray 74 (0, 0))) (hA : ∀ o ∈ E, o.A = []) : ReO w (.slice (some ⟨b, 0, none⟩) E.length E.length) E := by
  refine ⟨E.map ovN, ?_, ?_⟩
  · have := row_blk h
    rw [List.length_map] at this
    exact this
  · clear h
    induction E with
    | nil => exact .nil
    | cons o r ih =>
      refine .cons ⟨rfl, rfl, rfl, rfl, ?_⟩ (ih fun x hx => hA x (List.mem_cons_of_mem _ hx))
      rw [hA o (List.mem_cons_self ..)]
      exact RN.nil w
end Go.Proofs.YthfpmhnnjjikcabGreatDoor

/- Canonical lists of operations in order are in order. -/
namespace Go.Proofs.YthfpmhnnjjikcabGreatDoor
open Go Go.RowKit Go.Lib
set_option linter.unusedVariables false
theorem trim_sub (P : List Op5) : (∀ x ∈ trimL P, x ∈ P) ∧ txtS (trimL P) ≤ txtS P ∧ (trimL P).length ≤ P.length := by
  rcases List.eq_nil_or_concat P with rfl | ⟨F, x, rfl⟩
  · exact ⟨fun x h => h, Nat.le_refl _, Nat.le_refl _⟩
  · rw [List.concat_eq_append]
    have e : trimL (F ++ [x]) = if plainR x then F else F ++ [x] := by
      unfold trimL
      rw [List.getLast?_concat, List.dropLast_concat]
    rw [e]
    split
    · exact ⟨fun y h => List.mem_append_left _ h, by rw [txtS_append]; omega, by simp⟩
    · exact ⟨fun y h => h, Nat.le_refl _, Nat.le_refl _⟩
/-- The canonical list of operations in order is in order, and no greater. -/
theorem canon_ok {E : List Op5} (h : OkE E) : OkE (canonL E) ∧ txtS (canonL E) ≤ txtS E ∧ (canonL E).length ≤ E.length := by
  have hz : BSz (bldR E) E.length (txtS E) := by
    have := bldR_sz E BSz.nil h.fit
    rw [Nat.zero_add, Nat.zero_add] at this
    exact this
  obtain ⟨c1, c2, c3, c4⟩ := canon_spec h.wel
  obtain ⟨s1, s2⟩ := canon_sums h.wel
  have key : (∀ x ∈ canonL E, FitA x) ∧ txtS (canonL E) ≤ txtS E ∧ (canonL E).length ≤ E.length := by
    rw [← finB_canon h.wel]
    obtain ⟨a, b, c⟩ := hz.set
    have a2 := hz.fit
    have b2 := hz.txt
    have c2 := hz.len
    unfold finB
    by_cases h0 : 0 < (bldR E).2
    · rw [if_pos h0]
      unfold setB at a b c
      rw [if_pos h0] at a b c
      exact ⟨a, b, c⟩
    · rw [if_neg h0]
      obtain ⟨t1, t2, t3⟩ := trim_sub (bldR E).1
      exact ⟨fun x hx => a2 x (t1 x hx), by omega, by omega⟩
  have hb := h.base
  have hr := h.res
  have ht := h.txt
  have hl := h.len
  exact ⟨⟨wel_good c1 (by omega), key.1, by omega, by omega, by omega, by omega⟩, key.2⟩
theorem OkE.okR {E : List Op5} (h : OkE E) (hl : E.length ≤ 2097152) : OkR E := ⟨fun o ho => (h.fit o ho).n, hl⟩
end Go.Proofs.YthfpmhnnjjikcabGreatDoor

/- The canonical list while it is made: sizes. -/
namespace Go.Proofs.YthfpmhnnjjikcabGreatDoor
open Go Go.RowKit Go.Lib
set_option linter.unusedVariables false
theorem base_jn {x o : Op5} (hk : x.k = o.k) : baseO (jnO x o) = baseO x + baseO o ∨ o.k = 1 ∨ o.k = 2 := by
  by_cases h : o.k = 3 ∨ o.k = 4
  · left
    rw [base_3 h, base_3 (o := x) (by omega), base_3 (o := jnO x o) (by show x.k = 3 ∨ x.k = 4; omega)]
    rfl
  · by_cases h1 : o.k = 1
    · exact Or.inr (Or.inl h1)
    · by_cases h2 : o.k = 2
      · exact Or.inr (Or.inr h2)
      · left
        have e : ∀ y : Op5, y.k = o.k → baseO y = 0 := fun y hy => by unfold baseO; rw [if_neg (by omega)]
        rw [e x hk, e o rfl, e (jnO x o) hk]; rfl
/-- Lists of operations put together bit by bit: sizes. -/
structure PQ (P : List Op5) (T : Nat) (S : Int) (L : Nat) : Prop where
  wel : ∀ x ∈ P, Wel x ∧ x.A.length ≤ 1048576
  txt : txtS P ≤ T
  sum : sumB P ≤ S
  len : P.length ≤ L
theorem PQ.push {P : List Op5} {T L : Nat} {S : Int} {o : Op5} (h : PQ P T S L) (ho : Wel o) (hA : o.A.length ≤ 1048576) : PQ (pushL P o) (T + o.t.size) (S + baseO o) (L + 1) := by
  obtain ⟨s1, s2⟩ := push_size P o
  have h1 := h.txt
  have h2 := h.len
  have h3 := h.sum
  refine ⟨?_, by omega, ?_, by omega⟩
  · rcases List.eq_nil_or_concat P with rfl | ⟨F, x, rfl⟩
    · rw [push_nil]; intro y hy; rw [List.mem_singleton.1 hy]; exact ⟨ho, hA⟩
    · rw [List.concat_eq_append] at h ⊢
      by_cases hj : x.k ≠ o.k ∨ o.k = 2 ∨ x.A ≠ o.A
      · rw [push_apart hj]
        intro y hy
        rcases List.mem_append.1 hy with hy | hy
        · exact h.wel y hy
        · rw [List.mem_singleton.1 hy]; exact ⟨ho, hA⟩
      · rw [push_join hj]
        have hx := h.wel x (List.mem_append_right _ (List.mem_singleton.2 rfl))
        have hk : x.k = o.k := Decidable.byContradiction fun e => hj (Or.inl e)
        have h2' : o.k ≠ 2 := fun e => hj (Or.inr (Or.inl e))
        have hA' : x.A = o.A := Decidable.byContradiction fun e => hj (Or.inr (Or.inr e))
        intro y hy
        rcases List.mem_append.1 hy with hy | hy
        · exact h.wel y (List.mem_append_left _ hy)
        · rw [List.mem_singleton.1 hy]
          exact ⟨(join_wel hx.1 ho hk h2' hA').1, hx.2⟩
  · rcases List.eq_nil_or_concat P with rfl | ⟨F, x, rfl⟩
    · rw [push_nil, sumB_one]; have : sumB ([] : List Op5) = 0 := rfl; omega
    · rw [List.concat_eq_append] at h3 ⊢
      by_cases hj : x.k ≠ o.k ∨ o.k = 2 ∨ x.A ≠ o.A
      · rw [push_apart hj, sumB_append, sumB_one]; omega
      · rw [push_join hj, sumB_append, sumB_one]
        rw [sumB_append, sumB_one] at h3
        have hk : x.k = o.k := Decidable.byContradiction fun e => hj (Or.inl e)
        rcases base_jn hk with e | e | e
        · rw [e]; omega
        · rw [base_1 (o := jnO x o) (by show x.k = 1 ∨ x.k = 2; omega), base_1 (o := o) (Or.inl e)]
          rw [base_1 (o := x) (by omega)] at h3
          omega
        · exact absurd (Or.inr (Or.inl e)) hj
theorem PQ.up {P : List Op5} {T T' L L' : Nat} {S S' : Int} (h : PQ P T S L) (h1 : T ≤ T') (h2 : S ≤ S') (h3 : L ≤ L') : PQ P T' S' L' := ⟨h.wel, Nat.le_trans h.txt h1, Int.le_trans h.sum h2, Nat.le_trans h.len h3⟩
theorem PQ.fold : ∀ (G : List Op5) {P : List Op5} {T L : Nat} {S : Int}, PQ P T S L → (∀ o ∈ G, (Wel o ∧ o.A.length ≤ 1048576) ∧ (o.k = 1 ∨ o.k = 2)) → PQ (G.foldl pushL P) (T + txtS G) S (L + G.length)
  | [], P, T, L, S, h, _ => h
  | o :: r, P, T, L, S, h, hG => by
    obtain ⟨⟨h1, h2⟩, h3⟩ := hG o (List.mem_cons_self ..)
    have hp := h.push h1 h2
    rw [base_1 h3, Int.add_zero] at hp
    have := PQ.fold r hp (fun x hx => hG x (List.mem_cons_of_mem _ hx))
    have e : txtS (o :: r) = o.t.size + txtS r := by simp [txtS]
    rw [e, List.length_cons]
    exact this.up (by omega) (Int.le_refl _) (by omega)
/-- The document's state behind some operations: sizes. -/
structure RunQ (F : List Op5) (s : List Op5 × List Op5 × Int) : Prop where
  out : ∃ T S L, PQ s.1 T S L ∧ T + txtS s.2.1 ≤ txtS F ∧ S + s.2.2 ≤ sumB F ∧ L + s.2.1.length + (if 0 < s.2.2 then 1 else 0) ≤ F.length
  gap : ∀ o ∈ s.2.1, (Wel o ∧ o.A.length ≤ 1048576) ∧ (o.k = 1 ∨ o.k = 2)
  nn : 0 ≤ s.2.2
theorem RunQ.nil : RunQ [] ([], [], 0) := ⟨⟨0, 0, 0, ⟨fun x h => (by cases h), by simp [txtS], by simp [sumB], by simp⟩, by simp [txtS], by simp [sumB], by simp⟩, fun o h => (by cases h), Int.le_refl 0⟩
theorem flush_q {F : List Op5} {s : List Op5 × List Op5 × Int} (h : RunQ F s) : PQ (flushL s.1 s.2.1 s.2.2) (txtS F) (sumB F) F.length := by
  obtain ⟨⟨T, S, L, h1, h2, h3, h4⟩, h5, h6⟩ := h
  have hf := PQ.fold s.2.1 h1 h5
  unfold flushL
  split
  · rename_i h0
    rw [if_pos h0] at h4
    have := hf.push (delO_wel (n := s.2.2) (by omega)) (by show (0 : Nat) ≤ _; omega)
    rw [base_3 (o := delO s.2.2) (Or.inr rfl)] at this
    exact this.up (by show T + txtS s.2.1 + 0 ≤ _; omega) (by show S + s.2.2 ≤ _; omega) (by omega)
  · exact hf.up (by omega) (by omega) (by omega)
theorem RunQ.step {F : List Op5} {s : List Op5 × List Op5 × Int} {o : Op5} (h : RunQ F s) (ho : Wel o) (hA : o.A.length ≤ 1048576) : RunQ (F ++ [o]) (stepC s o) := by
  have e1 := txtS_append F [o]
  have e2 := sumB_append F [o]
  rw [txtS_one] at e1
  rw [sumB_one] at e2
  have e3 : (F ++ [o]).length = F.length + 1 := by simp
  have hq := flush_q h
  have hn := h.nn
  unfold stepC
  rcases ho.kinds with hk | hk | hk | hk
  · rw [if_pos (Or.inl hk)]
    rw [base_1 (Or.inl hk)] at e2
    obtain ⟨T, S, L, h1, h2, h3, h4⟩ := h.out
    refine ⟨⟨T, S, L, h1, ?_, by show S + s.2.2 ≤ _; omega, ?_⟩, fun x hx => ?_, hn⟩
    · show T + txtS (s.2.1 ++ [o]) ≤ _; rw [txtS_append, txtS_one]; omega
    · show L + (s.2.1 ++ [o]).length + _ ≤ _; rw [List.length_append]; simp only [List.length_singleton]; omega
    · rcases List.mem_append.1 hx with hx | hx
      · exact h.gap x hx
      · rw [List.mem_singleton.1 hx]; exact ⟨⟨ho, hA⟩, Or.inl hk⟩
  · rw [if_pos (Or.inr hk)]
    rw [base_1 (Or.inr hk)] at e2
    obtain ⟨T, S, L, h1, h2, h3, h4⟩ := h.out
    refine ⟨⟨T, S, L, h1, ?_, by show S + s.2.2 ≤ _; omega, ?_⟩, fun x hx => ?_, hn⟩
    · show T + txtS (s.2.1 ++ [o]) ≤ _; rw [txtS_append, txtS_one]; omega
    · show L + (s.2.1 ++ [o]).length + _ ≤ _; rw [List.length_append]; simp only [List.length_singleton]; omega
    · rcases List.mem_append.1 hx with hx | hx
      · exact h.gap x hx
      · rw [List.mem_singleton.1 hx]; exact ⟨⟨ho, hA⟩, Or.inr hk⟩
  · rw [if_neg (by omega), if_neg (by omega)]
    have hp := hq.push ho hA
    exact ⟨⟨_, _, _, hp, by show txtS F + o.t.size + txtS [] ≤ _; rw [show txtS [] = 0 from rfl]; omega, by show sumB F + baseO o + 0 ≤ _; omega, by show F.length + 1 + 0 + (if (0 : Int) < 0 then 1 else 0) ≤ _; simp⟩, fun x hx => (by cases hx), Int.le_refl 0⟩
  · rw [if_neg (by omega), if_pos hk]
    rw [base_3 (Or.inr hk)] at e2
    have hc := ho.count (Or.inr hk)
    obtain ⟨T, S, L, h1, h2, h3, h4⟩ := h.out
    refine ⟨⟨T, S, L, h1, by show T + txtS s.2.1 ≤ _; omega, by show S + (s.2.2 + o.c) ≤ _; omega, ?_⟩, h.gap, by show 0 ≤ s.2.2 + o.c; omega⟩
    show L + s.2.1.length + (if 0 < s.2.2 + o.c then 1 else 0) ≤ _
    rw [if_pos (by omega)]; omega
theorem runC_snoc (F : List Op5) (o : Op5) : runC (F ++ [o]) = stepC (runC F) o := by unfold runC; rw [List.foldl_append]; rfl
theorem runQ_take {E : List Op5} (h : OkE E) : ∀ k, k ≤ E.length → RunQ (E.take k) (runC (E.take k)) := fun k => by
  induction k with
  | zero => intro _; rw [List.take_zero]; exact RunQ.nil
  | succ k ih =>
    intro hk
    have he : E[k]? = some E[k] := List.getElem?_eq_getElem (by omega)
    have hm : E[k] ∈ E := List.getElem_mem _
    rw [List.take_add_one, he, Option.toList_some, runC_snoc]
    exact (ih (by omega)).step (h.wel _ hm) (h.fit _ hm).n
/-- What push asks of the operations ahead. -/
theorem PQ.ask {P : List Op5} {T L : Nat} {S : Int} (h : PQ P T S L) (hT : T ≤ 8388608) (hS : S ≤ 2199023255552) : ∀ x ∈ P, Wel x ∧ x.A.length ≤ 2097152 ∧ x.t.size ≤ 8388608 ∧ x.c ≤ 2199023255552 := fun x hx => by
  obtain ⟨h1, h2⟩ := h.wel x hx
  have h3 := txtS_mem hx
  have h4 := h.txt
  have h5 := h.sum
  have h6 := cnt_le (fun y hy => (h.wel y hy).1) hx
  exact ⟨h1, by omega, by omega, by omega⟩
end Go.Proofs.YthfpmhnnjjikcabGreatDoor

/- The document's deltas: Canonical. -/
namespace Go.Proofs.YthfpmhnnjjikcabGreatDoor
open Go Go.RowKit Go.Lib
set_option linter.unusedVariables false
/-- Two rows of the call's own, apart. -/
structure CanS (w0 wc W : World) (vo vg : Value) (PO PG : List Op5) : Prop where
  out : ∃ D, OwnO W wc.heap.size vo D ∧ ReD w0 D PO
  gap : ∃ D, OwnO W wc.heap.size vg D ∧ ReD w0 D PG
  apart : ∀ k, vo.ownBlock = some k → vg.ownBlock ≠ some k
  below : Below wc.heap.size wc W
  base : Below w0.heap.size w0 wc
theorem CanS.keep {w0 wc W W' : World} {vo vg : Value} {PO PG : List Op5} (h : CanS w0 wc W vo vg PO PG) (b : Below W.heap.size W W') : CanS w0 wc W' vo vg PO PG := by
  obtain ⟨D, a1, a2⟩ := h.out
  obtain ⟨G, b1, b2⟩ := h.gap
  exact ⟨⟨D, owns_below a1 b, a2⟩, ⟨G, owns_below b1 b, b2⟩, h.apart, h.below.trans (b.mono h.below.size), h.base⟩
theorem CanS.pushed {w0 wc W W' : World} {vo vg : Value} {PO PG P : List Op5} {e : Ending} (h : CanS w0 wc W vo vg PO PG) (r : PushR w0 wc.heap.size W W' vo e P) : ∃ v', e = .returned v' ∧ CanS w0 wc W' v' vg P PG := by
  obtain ⟨v', D', rfl, h1, h2, h3, h4⟩ := r
  obtain ⟨D, a1, a2⟩ := h.out
  obtain ⟨G, b1, b2⟩ := h.gap
  have hlt : ∀ k, vg.ownBlock = some k → k < W.heap.size := fun k hk => by
    obtain ⟨_, cur, hc⟩ := owns_block b1 k hk
    exact (Array.getElem?_eq_some_iff.1 hc).1
  refine ⟨v', rfl, ⟨D', h1, h2⟩, ⟨G, owns_same b1 fun k hk => h3.block k (hlt k hk) (fun e => h.apart k e hk), b2⟩, fun k hk hg => ?_, ?_, h.base⟩
  · rcases h4 with h4 | ⟨j, h4, h5⟩
    · exact h.apart k (h4 ▸ hk) hg
    · rw [h4] at hk
      obtain rfl : j = k := Option.some.inj hk
      have := hlt j hg
      omega
  · have := h3.below (B := wc.heap.size) h.below.size (fun k hk => (owns_block a1 k hk).1)
    exact h.below.trans this
theorem CanS.gapped {w0 wc W w8 : World} {vo vg v8 : Value} {PO PG : List Op5} {e : Op5} {sp : Option Addr} {sl sc : Nat} (h : CanS w0 wc W vo vg PO PG) {D : List OV} (hD : ReD w0 D PG) (hr : RN w0 (.slice sp sl sc) e.A) (h1 : OwnO w8 wc.heap.size v8 (D ++ [(e.k, e.t, e.v, e.c, (sp, sl, sc))])) (gr : W.grownBy w8 vg.ownBlock) (hat : v8.ownBlock = vg.ownBlock ∨ v8.ownBlock = some W.heap.size) : CanS w0 wc w8 vo v8 PO (PG ++ [e]) := by
  obtain ⟨DO, a1, a2⟩ := h.out
  obtain ⟨G, b1, b2⟩ := h.gap
  have hlt : ∀ k, vo.ownBlock = some k → k < W.heap.size := fun k hk => by
    obtain ⟨_, cur, hc⟩ := owns_block a1 k hk
    exact (Array.getElem?_eq_some_iff.1 hc).1
  refine ⟨⟨DO, owns_same a1 fun k hk => gr.block k (hlt k hk) (fun e => h.apart k hk e.symm), a2⟩, ⟨_, h1, forall2_append hD (.cons ⟨rfl, rfl, rfl, rfl, hr⟩ .nil)⟩, fun k hk hg => ?_, ?_, h.base⟩
  · rcases hat with e | e
    · exact h.apart k hk (e ▸ hg)
    · rw [e] at hg
      obtain rfl : W.heap.size = k := Option.some.inj hg
      have := hlt _ hk
      omega
  · exact h.below.grown gr h.below.size (fun k hk => (owns_block b1 k hk).1)
theorem CanS.cleared {w0 wc W : World} {vo vg : Value} {PO PG : List Op5} (h : CanS w0 wc W vo vg PO PG) : CanS w0 wc W vo (.slice none 0 0) PO [] :=
  ⟨h.out, ⟨[], ⟨rfl, Or.inl ⟨rfl, rfl⟩⟩, .nil⟩, fun k _ h => (by cases h), h.below, h.base⟩
theorem CanS.len {w0 wc W : World} {vo vg : Value} {PO PG : List Op5} (h : CanS w0 wc W vo vg PO PG) : ∃ p c, vg = .slice p PG.length c := by
  obtain ⟨G, b1, b2⟩ := h.gap
  obtain ⟨p, c, e⟩ := own_slice b1
  exact ⟨p, c, by rw [e, forall2_len b2]⟩
theorem CanS.read {w0 wc W : World} {vo : Value} {PO PG : List Op5} {p : Option Addr} {l c : Nat} (h : CanS w0 wc W vo (.slice p l c) PO PG) (j : Nat) (hj : j < PG.length) : ∃ (e : Op5) (b : Nat) (sp : Option Addr) (sl sc : Nat), PG[j]? = some e ∧ p = some ⟨b, 0, none⟩ ∧ OpAt W b (0 + j * 7) (e.k, e.t, e.v, e.c, (sp, sl, sc)) ∧ RN w0 (.slice sp sl sc) e.A := by
  obtain ⟨G, b1, b2⟩ := h.gap
  have hl := forall2_len b2
  obtain ⟨d, hd⟩ : ∃ d, G[j]? = some d := ⟨_, List.getElem?_eq_getElem (by omega)⟩
  obtain ⟨e, he, h1, h2, h3, h4, h5⟩ := forall2_get b2 j d hd
  obtain ⟨dk, dt, dv, dc, sp, sl, sc⟩ := d
  simp only at h1 h2 h3 h4
  subst h1; subst h2; subst h3; subst h4
  obtain ⟨q, cc, hv⟩ := own_slice b1
  rcases b1.2 with ⟨_, h0⟩ | ⟨g, cap, cur, e1, _⟩
  · omega
  · cases e1
    exact ⟨e, g, sp, sl, sc, he, rfl, own_opAt b1 j _ hd, h5⟩
/-- push on the rows. -/
theorem push_can {w0 wc W : World} {vo vg : Value} {PO PG : List Op5} {T L : Nat} {S : Int} (o : Op5) (sp : Option Addr) (sl sc : Nat) (h : CanS w0 wc W vo vg PO PG) (ho : RN w0 (.slice sp sl sc) o.A) (q : PQ PO T S L) (hT : T ≤ 8388608) (hS : S ≤ 2199023255552) (hL : L ≤ 4194304) (how : Wel o) (hn2 : o.A.length ≤ 1048576) (hot : o.t.size ≤ 8388608) (hoc : o.c ≤ 2199023255552) :
    Calls Tryz.prog 116 #[vo, opV o (.slice sp sl sc)] W fun e w' => ∃ v', e = .returned v' ∧ CanS w0 wc w' v' vg (pushL PO o) PG := by
  obtain ⟨D, a1, a2⟩ := h.out
  have hl := q.len
  exact (push6_any vo D PO o sp sl sc W h.below.size (h.base.trans (h.below.mono h.base.size)) a1 a2 ho (by omega) (q.ask hT hS) how (by omega) hot hoc).mono fun e w' r => h.pushed r
/-- The sizes while a gap is put behind. -/
theorem RunQ.fold {F : List Op5} {s : List Op5 × List Op5 × Int} (h : RunQ F s) (j : Nat) : PQ ((s.2.1.take j).foldl pushL s.1) (txtS F) (sumB F) F.length := by
  obtain ⟨⟨T, S, L, h1, h2, h3, h4⟩, h5, h6⟩ := h
  have hf := PQ.fold (s.2.1.take j) h1 (fun o ho => h5 o (List.mem_of_mem_take ho))
  have e1 := txtS_take s.2.1 j
  have e2 : (s.2.1.take j).length ≤ s.2.1.length := by rw [List.length_take]; omega
  exact hf.up (by omega) (by omega) (by split at h4 <;> omega)
/-- The state ahead of the m-th round. -/
def stA (E : List Op5) (m : Nat) : List Op5 × List Op5 × Int := if m ≤ E.length then runC (E.take m) else (flushL (runC E).1 (runC E).2.1 (runC E).2.2, [], 0)
theorem stA_end (E : List Op5) : stA E (E.length + 1) = (flushL (runC E).1 (runC E).2.1 (runC E).2.2, [], 0) := by unfold stA; rw [if_neg (by omega)]
theorem stA_at {E : List Op5} {m : Nat} (h : m ≤ E.length) : stA E m = runC (E.take m) := by unfold stA; rw [if_pos h]
theorem stA_succ {E : List Op5} {m : Nat} {e : Op5} (h : E[m]? = some e) : stA E (m + 1) = stepC (stA E m) e := by
  have hm : m < E.length := (List.getElem?_eq_some_iff.1 h).1
  rw [stA_at (by omega), stA_at (by omega), List.take_add_one, h, Option.toList_some, runC_snoc]
theorem stA_ins {E : List Op5} {m : Nat} {e : Op5} (h : E[m]? = some e) (hk : e.k = 1 ∨ e.k = 2) : stA E (m + 1) = ((stA E m).1, (stA E m).2.1 ++ [e], (stA E m).2.2) := by rw [stA_succ h]; unfold stepC; rw [if_pos hk]
theorem stA_del {E : List Op5} {m : Nat} {e : Op5} (h : E[m]? = some e) (hk : e.k = 4) : stA E (m + 1) = ((stA E m).1, (stA E m).2.1, (stA E m).2.2 + e.c) := by rw [stA_succ h]; unfold stepC; rw [if_neg (by omega), if_pos hk]
theorem stA_ret {E : List Op5} {m : Nat} {e : Op5} (h : E[m]? = some e) (hk : e.k = 3) : stA E (m + 1) = (pushL (flushL (stA E m).1 (stA E m).2.1 (stA E m).2.2) e, [], 0) := by rw [stA_succ h]; unfold stepC; rw [if_neg (by omega), if_neg (by omega)]
theorem trim_yes {F : List Op5} {x : Op5} (h : plainR x = true) : trimL (F ++ [x]) = F := by unfold trimL; rw [List.getLast?_concat]; simp only; rw [if_pos h, List.dropLast_concat]
theorem trim_no {F : List Op5} {x : Op5} (h : plainR x = false) : trimL (F ++ [x]) = F ++ [x] := by unfold trimL; rw [List.getLast?_concat]; simp only; rw [if_neg (by simp [h])]
/-- The sizes of the state ahead of the m-th round. -/
theorem stA_q {E : List Op5} (h : OkE E) {m : Nat} (hm : m ≤ E.length) : (∀ j, PQ (((stA E m).2.1.take j).foldl pushL (stA E m).1) 8388608 1099511627776 4194304) ∧ PQ (flushL (stA E m).1 (stA E m).2.1 (stA E m).2.2) 8388608 1099511627776 4194304 ∧ (∀ o ∈ (stA E m).2.1, Wel o ∧ o.A.length ≤ 1048576 ∧ o.t.size ≤ 8388608 ∧ o.c ≤ 2199023255552) ∧ 0 ≤ (stA E m).2.2 ∧ (stA E m).2.2 ≤ 1099511627776 ∧ (stA E m).2.1.length ≤ 4194304 := by
  rw [stA_at hm]
  have q := runQ_take h m hm
  have t1 := txtS_take E m
  have t2 := h.txt
  have t3 := h.len
  have t4 : (E.take m).length ≤ E.length := by rw [List.length_take]; omega
  have t5 : sumB (E.take m) ≤ sumB E := by
    have := sumB_append (E.take m) (E.drop m)
    rw [List.take_append_drop] at this
    have := (sums_nn (E := E.drop m) (fun o ho => h.wel o (List.mem_of_mem_drop ho))).1
    omega
  have t6 := h.base
  obtain ⟨⟨T, S, L, h1, h2, h3, h4⟩, h5, h6⟩ := q
  have hS : 0 ≤ S := by
    have := (sums_nn (E := (runC (E.take m)).1) (fun o ho => (h1.wel o ho).1)).1
    have := h1.sum
    omega
  have q := runQ_take h m hm
  refine ⟨fun j => (q.fold j).up (by omega) (by omega) (by omega), (flush_q q).up (by omega) (by omega) (by omega), fun o ho => ?_, h6, by omega, by split at h4 <;> omega⟩
  obtain ⟨⟨a1, a2⟩, a3⟩ := h5 o ho
  have := txtS_mem ho
  refine ⟨a1, a2, by omega, ?_⟩
  rcases a1 with ⟨hi, _⟩ | ⟨b, _⟩ | ⟨b, _⟩
  · rw [hi.count]; omega
  · omega
  · omega
/-- A row of operations in a block from a mark on. -/
def FarO (w : World) (B : Nat) (v : Value) (D : List OV) : Prop :=
  ∃ p cap, v = .slice p D.length cap ∧ D.length ≤ cap ∧ (p = none → cap = 0) ∧ ∀ (j : Nat) (d : OV), D[j]? = some d → ∃ b off, p = some ⟨b, off, none⟩ ∧ B ≤ b ∧ OpAt w b (off + j * 7) d
theorem FarO.row {w : World} {B : Nat} {v : Value} {D : List OV} (h : FarO w B v D) : RowO w v D := by
  obtain ⟨p, cap, h1, h2, h3, h4⟩ := h
  exact ⟨p, cap, h1, h2, h3, fun j d hd => by obtain ⟨b, off, a1, _, a2⟩ := h4 j d hd; exact ⟨b, off, a1, a2⟩⟩
theorem FarO.below {w w' : World} {B : Nat} {v : Value} {D : List OV} (h : FarO w B v D) (hb : Below w.heap.size w w') : FarO w' B v D := by
  obtain ⟨p, cap, h1, h2, h3, h4⟩ := h
  exact ⟨p, cap, h1, h2, h3, fun j d hd => by obtain ⟨b, off, a1, a0, a2⟩ := h4 j d hd; exact ⟨b, off, a1, a0, a2.below hb⟩⟩
theorem FarO.weaken {w : World} {B C : Nat} {v : Value} {D : List OV} (h : FarO w B v D) (hc : C ≤ B) : FarO w C v D := by
  obtain ⟨p, cap, h1, h2, h3, h4⟩ := h
  exact ⟨p, cap, h1, h2, h3, fun j d hd => by obtain ⟨b, off, a1, a0, a2⟩ := h4 j d hd; exact ⟨b, off, a1, Nat.le_trans hc a0, a2⟩⟩
theorem far_own {w : World} {B : Nat} {v : Value} {D F : List OV} {n cap : Nat} {p : Option Addr} (h : OwnO w B v D) (hv : v = .slice p n cap) (hF : ∀ (j : Nat) (d : OV), F[j]? = some d → D[j]? = some d) (hl : F.length ≤ D.length) : FarO w B (.slice p F.length cap) F := by
  rcases h.2 with ⟨e1, h0⟩ | ⟨g, c, cur, e1, h2, h3, h4, h5⟩
  · rw [hv] at e1
    simp only [Value.slice.injEq] at e1
    obtain ⟨rfl, _, rfl⟩ := e1
    obtain rfl : F = [] := List.eq_nil_of_length_eq_zero (by omega)
    exact ⟨none, 0, rfl, Nat.le_refl _, fun _ => rfl, fun j d hd => (by simp at hd)⟩
  · rw [hv] at e1
    simp only [Value.slice.injEq] at e1
    obtain ⟨rfl, rfl, rfl⟩ := e1
    rw [hv] at h
    exact ⟨_, cap, rfl, by omega, fun h => (by cases h), fun j d hd => ⟨g, 0, rfl, h2, own_opAt h j d (hF j d hd)⟩⟩
set_option maxHeartbeats 40000000 in
set_option maxRecDepth 100000 in
theorem canon6_any {w0 : World} (va : Value) (D0 : List OV) (E : List Op5) (w : World) (hb0 : Below w0.heap.size w0 w) (hrow : RowO w va D0) (hre : ReD w0 D0 E) (ok : OkE E) :
    Calls Tryz.prog 84 #[va] w fun r w' => ∃ v', r = .returned v' ∧ (∃ D', FarO w' w.heap.size v' D' ∧ ReD w0 D' (canonL E)) ∧ Below w.heap.size w w' := by
  have hDE := forall2_len hre
  obtain ⟨n, hn⟩ : ∃ n, E.length = n := ⟨_, rfl⟩
  obtain ⟨p, cap, rfl, hcap, hnz, hc⟩ := hrow
  have HR : Hid (∀ k, k < n → ∃ (e : Op5) (b off : Nat) (sp : Option Addr) (sl sc : Nat), E[k]? = some e ∧ p = some ⟨b, off, none⟩ ∧ OpAt w b (off + k * 7) (e.k, e.t, e.v, e.c, (sp, sl, sc)) ∧ RN w0 (.slice sp sl sc) e.A) := fun k hk => by
    obtain ⟨d, hd⟩ : ∃ d, D0[k]? = some d := ⟨_, List.getElem?_eq_getElem (by omega)⟩
    obtain ⟨e, he, h1, h2, h3, h4, h5⟩ := forall2_get hre k d hd
    obtain ⟨b, off, hp, hat⟩ := hc k d hd
    obtain ⟨dk, dt, dv, dc, sp, sl, sc⟩ := d
    simp only at h1 h2 h3 h4
    subst h1; subst h2; subst h3; subst h4
    exact ⟨e, b, off, sp, sl, sc, he, hp, hat, h5⟩
  have HN : Hid (E.length = n ∧ OkE E) := ⟨hn, ok⟩
  have hnl : n ≤ 4194304 := by have := ok.len; omega
  rw [hDE, hn] at hcap ⊢
  clear hc hDE hre hnz ok hn
  have hcs : CanS w0 w ((w.alloc (.cells #[] 74)).alloc (.cells #[] 74)) (.slice (some ⟨w.heap.size, 0, none⟩) 0 0) (.slice (some ⟨w.heap.size + 1, 0, none⟩) 0 0) [] [] := by
    have o1 := own_emptyO w w.heap.size (Nat.le_refl _)
    have b1 := (Below.refl w.heap.size w).alloc (Nat.le_refl _) (.cells #[] 74)
    have s1 : (w.alloc (.cells #[] 74)).heap.size = w.heap.size + 1 := by simp
    have o2 := own_emptyO (w.alloc (.cells #[] 74)) w.heap.size (by omega)
    rw [s1] at o2
    refine ⟨⟨[], owns_below o1 ((Below.refl _ _).alloc (Nat.le_refl _) _), .nil⟩, ⟨[], o2, .nil⟩, fun k h1 h2 => ?_, b1.alloc b1.size _, hb0⟩
    have e1 : w.heap.size = k := Option.some.inj h1
    have e2 : w.heap.size + 1 = k := Option.some.inj h2
    omega
  have HS0 : Hid (CanS w0 w ((w.alloc (.cells #[] 74)).alloc (.cells #[] 74)) (.slice (some ⟨w.heap.size, 0, none⟩) 0 0) (.slice (some ⟨w.heap.size + 1, 0, none⟩) 0 0) (stA E 0).1 (stA E 0).2.1) := by
    rw [stA_at (Nat.zero_le _), List.take_zero]; exact hcs
  have hz0 : (0 : Int) = (stA E 0).2.2 := by rw [stA_at (Nat.zero_le _), List.take_zero]; rfl
  clear hcs
  go_enter Tryz.func84, Tryz.ntmps84
  go_wp2
  obtain ⟨W0, hW0⟩ : ∃ W, W = (w.alloc (.cells #[] 74)).alloc (.cells #[] 74) := ⟨_, rfl⟩
  obtain ⟨vo0, hvo0⟩ : ∃ v : Value, v = .slice (some ⟨w.heap.size, 0, none⟩) 0 0 := ⟨_, rfl⟩
  obtain ⟨vg0, hvg0⟩ : ∃ v : Value, v = .slice (some ⟨w.heap.size + 1, 0, none⟩) 0 0 := ⟨_, rfl⟩
  rw [← hW0, ← hvo0, ← hvg0] at HS0
  try rw [← hW0]
  try rw [← hvo0]
  try rw [← hvg0]
  clear hW0 hvo0 hvg0
  go_loopw [3, 4, 5, 6] (fun vo vg g i wr => ∃ (m : Nat), m ≤ n + 1 ∧ i = .int .i64 m ∧ g = .int .i64 (stA E m).2.2 ∧ Hid (CanS w0 w wr vo vg (stA E m).1 (stA E m).2.1)) (fun _ _ _ i _ => n + 1 - (RowKit.intOf i).toNat)
  case atStart => exact ⟨0, Nat.zero_le _, rfl, by rw [← hz0], HS0⟩
  case round =>
    clear HS0 hz0
    obtain ⟨m, hm, rfl, rfl, HS⟩ := hrel
    by_cases hlt : m < n
    · have hltI : (m : Int) < n := by omega
      have hleI : (m : Int) ≤ n := by omega
      have hge0 : (0 : Int) ≤ (m : Int) := by omega
      obtain ⟨e, b, off, sp, sl, sc, he, rfl, hat, hrn⟩ := HR.out m hlt
      obtain ⟨c0, c1, c2, c3, c4, c5, c6⟩ := hat.below HS.out.below
      have how := HN.out.2.wel e (List.mem_of_getElem? he)
      have hA := (HN.out.2.fit e (List.mem_of_getElem? he)).n
      have ht : e.t.size ≤ 8388608 := by have := txtS_mem (List.mem_of_getElem? he); have := HN.out.2.txt; omega
      have hq := stA_q HN.out.2 (m := m) (by have := HN.out.1; omega)
      have hec : e.c ≤ 2199023255552 := by
        have := HN.out.2.base
        rcases cnt_le HN.out.2.wel (List.mem_of_getElem? he) with h1 | h1 <;> omega
      have HF : Hid (RN w0 (.slice sp sl sc) e.A ∧ Wel e ∧ e.A.length ≤ 1048576 ∧ e.t.size ≤ 8388608 ∧ e.c ≤ 2199023255552) := ⟨hrn, how, hA, ht, hec⟩
      have HQ := Hid.mk' hq
      have cI := ins6_any e sp sl sc wr
      rcases (show (e.k = 1 ∨ e.k = 2) ∨ e.k = 3 ∨ e.k = 4 by rcases how.kinds with h | h | h | h <;> omega) with hk | hk | hk
      · have HNX := Hid.mk' (stA_ins he hk)
        have cI0 : decide (e.k = 1 ∨ e.k = 2) = true := decide_eq_true (by omega)
        rw [cI0] at cI
        have HG : Hid (∀ W, Below wr.heap.size wr W → ∃ D, D.length ≤ 33554432 ∧ OpAt (W.alloc (.cells (opC e (.slice sp sl sc)) 74)) W.heap.size 0 (e.k, e.t, e.v, e.c, (sp, sl, sc)) ∧ OwnO (W.alloc (.cells (opC e (.slice sp sl sc)) 74)) w.heap.size u4 D ∧ w.heap.size ≤ (W.alloc (.cells (opC e (.slice sp sl sc)) 74)).heap.size ∧ ∀ v8 w8, OwnO w8 w.heap.size v8 (D ++ [(e.k, e.t, e.v, e.c, (sp, sl, sc))]) → (W.alloc (.cells (opC e (.slice sp sl sc)) 74)).grownBy w8 u4.ownBlock → (v8.ownBlock = u4.ownBlock ∨ v8.ownBlock = some (W.alloc (.cells (opC e (.slice sp sl sc)) 74)).heap.size) → CanS w0 w w8 u3 v8 (stA E (m + 1)).1 (stA E (m + 1)).2.1) := fun W hW => by
          have h := HS.out.keep hW
          have hk := h.keep ((Below.refl W.heap.size W).alloc (Nat.le_refl _) (.cells (opC e (.slice sp sl sc)) 74))
          obtain ⟨D, d1, d2⟩ := hk.gap
          have hl := forall2_len d2
          have := hq.2.2.2.2.2
          refine ⟨D, by omega, ⟨by simp [opC], by simp [opC], by simp [opC], by simp [opC], by simp [opC], by simp [opC], by simp [opC]⟩, d1, hk.below.size, fun v8 w8 a1 a2 a3 => ?_⟩
          rw [HNX.out]; exact hk.gapped d2 hrn a1 a2 a3
        have H2 : Hid ((stA E (m + 1)).2.2 = (stA E m).2.2) := by show _ = _; rw [HNX.out]
        obtain ⟨g, hg⟩ : ∃ x, (stA E m).2.2 = x := ⟨_, rfl⟩
        rw [hg] at H2 ⊢
        clear cI0 HQ hq hrn how hA ht hec hat he HF HNX HS hg
        obtain ⟨k, t, ⟨xx, nn, u⟩, cc, A⟩ := e
        simp only [slV] at c0 c1 c2 c3 c4 c5 c6 cI
        go_wp2_with fail
        refine cI.mono ?_; rintro r w1 ⟨rfl, hb1⟩
        have d0 := (hb1.cell (lt_of_cell c0)).trans c0
        have d1 := (hb1.cell (lt_of_cell c1)).trans c1
        have d2 := (hb1.cell (lt_of_cell c2)).trans c2
        have d3 := (hb1.cell (lt_of_cell c3)).trans c3
        have d4 := (hb1.cell (lt_of_cell c4)).trans c4
        have d5 := (hb1.cell (lt_of_cell c5)).trans c5
        have d6 := (hb1.cell (lt_of_cell c6)).trans c6
        obtain ⟨D, hD1, hD2, hD3, hD4, hD5⟩ := HG.out w1 hb1
        have HD5 := Hid.mk' hD5
        clear cI HG hD5 c0 c1 c2 c3 c4 c5 c6 hb1
        go_wp2_with (at_builtin; refine wpList_append_ops rfl (.tmp 28) (.tmp 33) rfl w.heap.size u4 D rfl hD3 _ 1 _ rfl hD2 hD1 hD4 ?_; intro v8 w8 own8 gr8 hat8; have HS2 := Hid.mk' (HD5.out v8 w8 own8 gr8 hat8); clear own8 gr8 hat8 HD5 hD1 hD2 hD3 hD4 d0 d1 d2 d3 d4 d5 d6)
        go_roundw
        case rel => exact ⟨m + 1, by omega, by go_num, by rw [H2.out], HS2⟩
        case measure => simp [RowKit.intOf]; omega
      · have HNX := Hid.mk' (stA_ret he hk)
        have cI0 : decide (e.k = 1 ∨ e.k = 2) = false := decide_eq_false (by omega)
        rw [cI0] at cI
        have HBE : Hid (∀ W, Below w.heap.size w W → OpAt W b (off + m * 7) (e.k, e.t, e.v, e.c, (sp, sl, sc))) := fun W hW => hat.below hW
        clear cI0 hq hrn how hA ht hec hat he
        obtain ⟨PO, hPO⟩ : ∃ x, (stA E m).1 = x := ⟨_, rfl⟩
        obtain ⟨PG, hPG⟩ : ∃ x, (stA E m).2.1 = x := ⟨_, rfl⟩
        obtain ⟨g, hg⟩ : ∃ x, (stA E m).2.2 = x := ⟨_, rfl⟩
        rw [hPO, hPG, hg] at HNX HQ
        rw [hPO, hPG] at HS
        rw [hg]
        clear hPO hPG hg
        have hg2 := HQ.out.2.2.2.2.1
        have hg1 := HQ.out.2.2.2.1
        obtain ⟨k, t, ⟨xx, nn, u⟩, cc, A⟩ := e
        simp only [slV] at hk c0 c1 c2 c3 c4 c5 c6 cI HBE
        subst hk
        go_wp2_with fail
        refine cI.mono ?_; rintro r w1 ⟨rfl, hb1⟩
        have c0' := (hb1.cell (lt_of_cell c0)).trans c0
        obtain ⟨pg, cg, rfl⟩ := HS.out.len
        have H1 : Hid (CanS w0 w w1 u3 (.slice pg PG.length cg) PO PG) := HS.out.keep hb1
        obtain ⟨lg, hlg⟩ : ∃ x, PG.length = x := ⟨_, rfl⟩
        have HLG : Hid (PG.length = lg) := hlg
        have hlg4 : lg ≤ 4194304 := by have := HQ.out.2.2.2.2.2; omega
        rw [hlg] at H1 ⊢
        clear hlg cI HS c0 c1 c2 c3 c4 c5 c6 hb1
        go_wp2
        go_loopw [3, 56] (fun vo i wr2 => ∃ (j : Nat), j ≤ lg ∧ i = .int .i64 j ∧ Hid (CanS w0 w wr2 vo (.slice pg lg cg) ((PG.take j).foldl pushL PO) PG)) (fun _ i _ => lg - (RowKit.intOf i).toNat)
        case atStart => exact ⟨0, Nat.zero_le _, rfl, by rw [List.take_zero]; exact H1⟩
        case round =>
          clear H1
          obtain ⟨j, hj, rfl, H1⟩ := hrel
          by_cases hjl : j < lg
          · have hjI : (j : Int) < lg := by omega
            have hj0 : (0 : Int) ≤ (j : Int) := by omega
            obtain ⟨e', gg, sp', sl', sc', he', rfl, hat', hrn'⟩ := H1.out.read j (by rw [HLG.out]; exact hjl)
            obtain ⟨d0, d1, d2, d3, d4, d5, d6⟩ := hat'
            rw [Nat.zero_add] at d0 d1 d2 d3 d4 d5 d6
            have HB := H1.out.keep ((Below.refl wr.heap.size wr).alloc (Nat.le_refl _) (.cells (opC e' (.slice sp' sl' sc')) 74))
            obtain ⟨a1, a2, a3, a4⟩ := HQ.out.2.2.1 e' (List.mem_of_getElem? he')
            have cP := push_can e' sp' sl' sc' HB hrn' (HQ.out.1 j) (Nat.le_refl _) (by decide) (Nat.le_refl _) a1 a2 a3 a4
            have hP2 : pushL ((PG.take j).foldl pushL PO) e' = (PG.take (j + 1)).foldl pushL PO := by rw [List.take_add_one, he', List.foldl_append]; rfl
            rw [hP2] at cP
            clear HB a1 a2 a3 a4 H1 hrn' he' hP2
            obtain ⟨k', t', ⟨x', n', u'⟩, c', A'⟩ := e'
            simp only [opC, slV] at d0 d1 d2 d3 d4 d5 d6 cP
            go_wp2_with fail
            refine cP.mono ?_; rintro r w5 ⟨v5, rfl, h5⟩
            have H5 := Hid.mk' h5
            clear cP d0 d1 d2 d3 d4 d5 d6 h5
            go_wp2
            go_roundw
            case rel => exact ⟨j + 1, by omega, by go_num, H5⟩
            case measure => simp [RowKit.intOf]; omega
          · obtain rfl : j = lg := by omega
            have hjI : ¬ (j : Int) < j := by omega
            have hq1 := HQ.out.1 j
            rw [show PG.take j = PG by have := HLG.out; rw [← this, List.take_length]] at H1 hq1
            by_cases hgp : 0 < g
            · have cP := push_can (delO g) none 0 0 H1.out (RN.nil w0) hq1 (Nat.le_refl _) (by decide) (Nat.le_refl _) (delO_wel (by omega)) (by show (0 : Nat) ≤ _; omega) (by show (0 : Nat) ≤ _; omega) (by show g ≤ _; omega)
              have hfl : pushL (PG.foldl pushL PO) (delO g) = flushL PO PG g := by unfold flushL; rw [if_pos hgp]
              rw [hfl] at cP
              simp only [delO] at cP
              clear hq1 H1 hfl
              go_wp2_with fail
              refine cP.mono ?_; rintro r w5 ⟨v5, rfl, h5⟩
              have H5 := Hid.mk' h5.cleared
              clear cP h5
              obtain ⟨d0, d1, d2, d3, d4, d5, d6⟩ := HBE.out w5 H5.out.below
              have cP := push_can ⟨3, t, (xx, nn, u), cc, A⟩ sp sl sc H5.out HF.out.1 HQ.out.2.1 (Nat.le_refl _) (by decide) (Nat.le_refl _) HF.out.2.1 HF.out.2.2.1 HF.out.2.2.2.1 HF.out.2.2.2.2
              have H2 : Hid ((stA E (m + 1)).2.2 = 0) := by show _ = _; rw [HNX.out]
              have h1 : pushL (flushL PO PG g) ⟨3, t, (xx, nn, u), cc, A⟩ = (stA E (m + 1)).1 := by rw [HNX.out]
              have h2 : ([] : List Op5) = (stA E (m + 1)).2.1 := by rw [HNX.out]
              rw [h1, h2] at cP
              clear H5 h1 h2 HNX HQ HF
              simp only [slV] at d0 d1 d2 d3 d4 d5 d6 cP
              go_wp2_with fail
              refine cP.mono ?_; rintro r w6 ⟨v6, rfl, h6⟩
              have H6 := Hid.mk' h6
              clear cP d0 d1 d2 d3 d4 d5 d6 h6
              go_wp2
              go_roundw
              case rel => exact ⟨m + 1, by omega, by go_num, by rw [H2.out], H6⟩
              case measure => simp [RowKit.intOf]; omega
            · have hfl : PG.foldl pushL PO = flushL PO PG g := by unfold flushL; rw [if_neg hgp]
              rw [hfl] at H1
              have H5 := Hid.mk' H1.out.cleared
              clear hq1 H1 hfl
              obtain ⟨d0, d1, d2, d3, d4, d5, d6⟩ := HBE.out wr H5.out.below
              have cP := push_can ⟨3, t, (xx, nn, u), cc, A⟩ sp sl sc H5.out HF.out.1 HQ.out.2.1 (Nat.le_refl _) (by decide) (Nat.le_refl _) HF.out.2.1 HF.out.2.2.1 HF.out.2.2.2.1 HF.out.2.2.2.2
              have H2 : Hid ((stA E (m + 1)).2.2 = 0) := by show _ = _; rw [HNX.out]
              have h1 : pushL (flushL PO PG g) ⟨3, t, (xx, nn, u), cc, A⟩ = (stA E (m + 1)).1 := by rw [HNX.out]
              have h2 : ([] : List Op5) = (stA E (m + 1)).2.1 := by rw [HNX.out]
              rw [h1, h2] at cP
              clear H5 h1 h2 HNX HQ HF
              simp only [slV] at d0 d1 d2 d3 d4 d5 d6 cP
              go_wp2_with fail
              refine cP.mono ?_; rintro r w6 ⟨v6, rfl, h6⟩
              have H6 := Hid.mk' h6
              clear cP d0 d1 d2 d3 d4 d5 d6 h6
              go_wp2
              go_roundw
              case rel => exact ⟨m + 1, by omega, by go_num, by rw [H2.out], H6⟩
              case measure => simp [RowKit.intOf]; omega
      · have HNX := Hid.mk' (stA_del he hk)
        have cI0 : decide (e.k = 1 ∨ e.k = 2) = false := decide_eq_false (by omega)
        rw [cI0] at cI
        have hcnt := how.count (Or.inr hk)
        have hg2 := hq.2.2.2.2.1
        have hg1 := hq.2.2.2.1
        clear cI0 HF HQ hq hrn how hA ht hat he
        obtain ⟨g, hg⟩ : ∃ x, (stA E m).2.2 = x := ⟨_, rfl⟩
        rw [hg] at HNX hg1 hg2 ⊢
        obtain ⟨k, t, ⟨xx, nn, u⟩, cc, A⟩ := e
        simp only [slV] at hk c0 c1 c2 c3 c4 c5 c6 hec hcnt cI
        subst hk
        go_wp2_with fail
        refine cI.mono ?_; rintro r w1 ⟨rfl, hb1⟩
        have c0' := (hb1.cell (lt_of_cell c0)).trans c0
        have c5' := (hb1.cell (lt_of_cell c5)).trans c5
        have H1 : Hid (CanS w0 w w1 u3 u4 (stA E (m + 1)).1 (stA E (m + 1)).2.1) := by rw [HNX.out]; exact HS.out.keep hb1
        have H2 : Hid ((stA E (m + 1)).2.2 = g + cc) := by show _ = _; rw [HNX.out]
        clear cI HS HNX c0 c1 c2 c3 c4 c5 c6 hg hb1
        go_wp2
        go_roundw
        case rel => exact ⟨m + 1, by omega, by go_num, by rw [H2.out], H1⟩
        case measure => simp [RowKit.intOf]; omega
    · by_cases hmn : m = n
      · subst hmn
        have hge0 : (0 : Int) ≤ (m : Int) := by omega
        have hq := stA_q HN.out.2 (m := m) (by have := HN.out.1; omega)
        have HQ := Hid.mk' hq
        have hst : stA E (m + 1) = (flushL (stA E m).1 (stA E m).2.1 (stA E m).2.2, [], 0) := by
          have e1 := HN.out.1
          rw [← e1, stA_end, stA_at (Nat.le_refl _), List.take_length]
        have HNX := Hid.mk' hst
        clear hq hst hlt
        obtain ⟨PO, hPO⟩ : ∃ x, (stA E m).1 = x := ⟨_, rfl⟩
        obtain ⟨PG, hPG⟩ : ∃ x, (stA E m).2.1 = x := ⟨_, rfl⟩
        obtain ⟨g, hg⟩ : ∃ x, (stA E m).2.2 = x := ⟨_, rfl⟩
        rw [hPO, hPG, hg] at HNX HQ
        rw [hPO, hPG] at HS
        rw [hg]
        clear hPO hPG hg
        have hg2 := HQ.out.2.2.2.2.1
        have hg1 := HQ.out.2.2.2.1
        obtain ⟨pg, cg, rfl⟩ := HS.out.len
        obtain ⟨lg, hlg⟩ : ∃ x, PG.length = x := ⟨_, rfl⟩
        have HLG : Hid (PG.length = lg) := hlg
        have hlg4 : lg ≤ 4194304 := by have := HQ.out.2.2.2.2.2; omega
        have H1 : Hid (CanS w0 w wr u3 (.slice pg PG.length cg) PO PG) := HS
        rw [hlg] at H1 ⊢
        clear hlg HS
        go_wp2
        go_loopw [3, 56] (fun vo i wr2 => ∃ (j : Nat), j ≤ lg ∧ i = .int .i64 j ∧ Hid (CanS w0 w wr2 vo (.slice pg lg cg) ((PG.take j).foldl pushL PO) PG)) (fun _ i _ => lg - (RowKit.intOf i).toNat)
        case atStart => exact ⟨0, Nat.zero_le _, rfl, by rw [List.take_zero]; exact H1⟩
        case round =>
          clear H1
          obtain ⟨j, hj, rfl, H1⟩ := hrel
          by_cases hjl : j < lg
          · have hjI : (j : Int) < lg := by omega
            have hj0 : (0 : Int) ≤ (j : Int) := by omega
            obtain ⟨e', gg, sp', sl', sc', he', rfl, hat', hrn'⟩ := H1.out.read j (by rw [HLG.out]; exact hjl)
            obtain ⟨d0, d1, d2, d3, d4, d5, d6⟩ := hat'
            rw [Nat.zero_add] at d0 d1 d2 d3 d4 d5 d6
            have HB := H1.out.keep ((Below.refl wr.heap.size wr).alloc (Nat.le_refl _) (.cells (opC e' (.slice sp' sl' sc')) 74))
            obtain ⟨a1, a2, a3, a4⟩ := HQ.out.2.2.1 e' (List.mem_of_getElem? he')
            have cP := push_can e' sp' sl' sc' HB hrn' (HQ.out.1 j) (Nat.le_refl _) (by decide) (Nat.le_refl _) a1 a2 a3 a4
            have hP2 : pushL ((PG.take j).foldl pushL PO) e' = (PG.take (j + 1)).foldl pushL PO := by rw [List.take_add_one, he', List.foldl_append]; rfl
            rw [hP2] at cP
            clear HB a1 a2 a3 a4 H1 hrn' he' hP2
            obtain ⟨k', t', ⟨x', n', u'⟩, c', A'⟩ := e'
            simp only [opC, slV] at d0 d1 d2 d3 d4 d5 d6 cP
            go_wp2_with fail
            refine cP.mono ?_; rintro r w5 ⟨v5, rfl, h5⟩
            have H5 := Hid.mk' h5
            clear cP d0 d1 d2 d3 d4 d5 d6 h5
            go_wp2
            go_roundw
            case rel => exact ⟨j + 1, by omega, by go_num, H5⟩
            case measure => simp [RowKit.intOf]; omega
          · obtain rfl : j = lg := by omega
            have hjI : ¬ (j : Int) < j := by omega
            have hq1 := HQ.out.1 j
            rw [show PG.take j = PG by have := HLG.out; rw [← this, List.take_length]] at H1 hq1
            by_cases hgp : 0 < g
            · have cP := push_can (delO g) none 0 0 H1.out (RN.nil w0) hq1 (Nat.le_refl _) (by decide) (Nat.le_refl _) (delO_wel (by omega)) (by show (0 : Nat) ≤ _; omega) (by show (0 : Nat) ≤ _; omega) (by show g ≤ _; omega)
              have hfl : pushL (PG.foldl pushL PO) (delO g) = flushL PO PG g := by unfold flushL; rw [if_pos hgp]
              rw [hfl] at cP
              simp only [delO] at cP
              clear hq1 H1 hfl
              go_wp2_with fail
              refine cP.mono ?_; rintro r w5 ⟨v5, rfl, h5⟩
              have H5 := Hid.mk' h5.cleared
              clear cP h5
              have H2 : Hid ((stA E (m + 1)).2.2 = 0) := by show _ = _; rw [HNX.out]
              have H6 : Hid (CanS w0 w w5 v5 (.slice none 0 0) (stA E (m + 1)).1 (stA E (m + 1)).2.1) := by rw [HNX.out]; exact H5
              clear H5 HNX HQ
              go_wp2
              go_roundw
              case rel => exact ⟨m + 1, by omega, by go_num, by rw [H2.out], H6⟩
              case measure => (simp [RowKit.intOf]) <;> omega
            · have hfl : PG.foldl pushL PO = flushL PO PG g := by unfold flushL; rw [if_neg hgp]
              rw [hfl] at H1
              have H5 := Hid.mk' H1.out.cleared
              clear hq1 H1 hfl
              have H2 : Hid ((stA E (m + 1)).2.2 = 0) := by show _ = _; rw [HNX.out]
              have H6 : Hid (CanS w0 w wr u3 (.slice none 0 0) (stA E (m + 1)).1 (stA E (m + 1)).2.1) := by rw [HNX.out]; exact H5
              clear H5 HNX HQ
              go_wp2
              go_roundw
              case rel => exact ⟨m + 1, by omega, by go_num, by rw [H2.out], H6⟩
              case measure => (simp [RowKit.intOf]) <;> omega
      · obtain rfl : m = n + 1 := by omega
        have hnl1 : ¬ ((n : Int) + 1 ≤ n) := by omega
        have hst : (stA E (n + 1)).1 = flushL (runC E).1 (runC E).2.1 (runC E).2.2 := by
          have e1 := HN.out.1
          rw [← e1, stA_end]
        rw [hst] at HS
        have hq := (stA_q HN.out.2 (m := n) (by have := HN.out.1; omega)).2.1.len
        rw [stA_at (by have := HN.out.1; omega), show E.take n = E by have := HN.out.1; rw [← this, List.take_length]] at hq
        have hcan : canonL E = trimL (flushL (runC E).1 (runC E).2.1 (runC E).2.2) := rfl
        generalize flushL (runC E).1 (runC E).2.1 (runC E).2.2 = P at HS hq hcan
        have hb := HS.out.below
        obtain ⟨D, hown, hD⟩ := HS.out.out
        have hD' := hD
        have hlen := forall2_len hD
        generalize (stA E (n + 1)).2.2 = g at *
        clear HS hst HN HR hD
        rcases List.eq_nil_or_concat P with rfl | ⟨F, x, rfl⟩
        · obtain rfl : D = [] := List.eq_nil_of_length_eq_zero (by simpa using hlen)
          obtain ⟨po, co, hvo⟩ := own_slice hown
          obtain rfl : u3 = .slice po 0 co := hvo
          have HO : Hid (FarO wr w.heap.size (.slice po 0 co) [] ∧ Below w.heap.size w wr) := ⟨far_own hown rfl (fun _ _ h => h) (Nat.le_refl _), hb⟩
          have HC : Hid (canonL E = []) := hcan
          clear hown hb hD' hlen hq hmn hlt hm hcan
          go_wp2
          go_ret
          exact ⟨_, rfl, ⟨[], HO.out.1, by rw [HC.out]; exact .nil⟩, HO.out.2⟩
        · rw [List.concat_eq_append] at hD' hlen hq hcan
          obtain ⟨FD, d, rfl⟩ : ∃ FD d, D = FD ++ [d] := by
            rcases List.eq_nil_or_concat D with rfl | ⟨FD, d, rfl⟩
            · simp at hlen
            · exact ⟨FD, d, List.concat_eq_append⟩
          have hl' : FD.length = F.length := by simpa using hlen
          obtain ⟨hF, hx⟩ := forall2_unappend hl' hD'
          obtain ⟨hx1, hx2, hx3, hx4, hx5⟩ : d.1 = x.k ∧ d.2.1 = x.t ∧ d.2.2.1 = x.v ∧ d.2.2.2.1 = x.c ∧ RN w0 (slV d.2.2.2.2) x.A := by cases hx with | cons a _ => exact a
          obtain ⟨dk, dt, dv, dc, sp, sl, sc⟩ := d
          simp only at hx1 hx2 hx3 hx4
          subst hx1; subst hx2; subst hx3; subst hx4
          have hro := own_rowO hown
          obtain ⟨po, co, hvo, hco1, hco2, hco3⟩ := hro
          obtain ⟨bo, oo, rfl, hat⟩ := hco3 FD.length (x.k, x.t, x.v, x.c, sp, sl, sc) (by simp)
          obtain ⟨c0, c1, c2, c3, c4, c5, c6⟩ := hat
          rw [show (FD ++ [(x.k, x.t, x.v, x.c, sp, sl, sc)]).length = FD.length + 1 by simp] at hvo hco1
          subst hvo
          have hlA : sl = x.A.length := by
            obtain ⟨q, cc, e1, _⟩ := hx5.row
            simp only [slV, Value.slice.injEq] at e1
            exact e1.2.1
          have cP := plain6_any x sp sl sc wr hlA
          have HB := Hid.mk' hb
          have HO := Hid.mk' hown
          have HRF : Hid (FarO wr w.heap.size (.slice (some ⟨bo, oo, none⟩) FD.length co) FD ∧ ReD w0 FD F) := ⟨far_own hown rfl (fun j d hd => by rw [List.getElem?_append_left (List.getElem?_eq_some_iff.1 hd).1]; exact hd) (by simp), hF⟩
          have HRX : Hid (FarO wr w.heap.size (.slice (some ⟨bo, oo, none⟩) (FD.length + 1) co) (FD ++ [(x.k, x.t, x.v, x.c, sp, sl, sc)]) ∧ ReD w0 (FD ++ [(x.k, x.t, x.v, x.c, sp, sl, sc)]) (F ++ [x])) := ⟨by have h := far_own hown rfl (F := FD ++ [(x.k, x.t, x.v, x.c, sp, sl, sc)]) (fun _ _ h => h) (Nat.le_refl _); rw [show (FD ++ [(x.k, x.t, x.v, x.c, sp, sl, sc)]).length = FD.length + 1 by simp] at h; exact h, forall2_append hF hx⟩
          have hFl : FD.length ≤ 4194304 := by simp at hq; omega
          obtain ⟨fl, hfl⟩ : ∃ y, FD.length = y := ⟨_, rfl⟩
          rw [hfl] at HRF HRX hFl hco1 c0 c1 c2 c3 c4 c5 c6 ⊢
          clear hco3 hco2 hx5 hx hF hl' hlen hD' hown hb hq hfl HO hmn hlt hm hlA
          have hf0 : (0 : Int) < (fl : Int) + 1 := by omega
          have hf1 : (fl : Int) + 1 - 1 = (fl : Int) := by omega
          have hf2 : (0 : Int) ≤ (fl : Int) := by omega
          cases hp : plainR x with
          | true =>
            rw [trim_yes hp] at hcan
            have HC := Hid.mk' hcan
            rw [hp] at cP
            clear HRX hp hcan
            obtain ⟨k, t, ⟨xx, nn, u⟩, cc, A⟩ := x
            simp only [slV] at c0 c1 c2 c3 c4 c5 c6 cP
            go_wp2_with fail
            refine cP.mono ?_; rintro r w1 ⟨rfl, hb1⟩
            have HB1 : Hid (Below w.heap.size w w1) := HB.out.trans (hb1.mono HB.out.size)
            have HR1 := Hid.mk' (And.intro (HRF.out.1.below hb1) HRF.out.2)
            clear cP c0 c1 c2 c3 c4 c5 c6 HRF HB hb1
            go_wp2
            go_ret
            exact ⟨_, rfl, ⟨_, HR1.out.1, by rw [HC.out]; exact HR1.out.2⟩, HB1.out⟩
          | false =>
            rw [trim_no hp] at hcan
            have HC := Hid.mk' hcan
            rw [hp] at cP
            clear HRF hp hcan
            obtain ⟨k, t, ⟨xx, nn, u⟩, cc, A⟩ := x
            simp only [slV] at c0 c1 c2 c3 c4 c5 c6 cP
            go_wp2_with fail
            refine cP.mono ?_; rintro r w1 ⟨rfl, hb1⟩
            have HB1 : Hid (Below w.heap.size w w1) := HB.out.trans (hb1.mono HB.out.size)
            have HR1 := Hid.mk' (And.intro (HRX.out.1.below hb1) HRX.out.2)
            clear cP c0 c1 c2 c3 c4 c5 c6 HRX HB hb1
            go_wp2
            go_ret
            exact ⟨_, rfl, ⟨_, HR1.out.1, by rw [HC.out]; exact HR1.out.2⟩, HB1.out⟩
end Go.Proofs.YthfpmhnnjjikcabGreatDoor

/- The document's op, Doc, Of, SameList of layer 9. -/
namespace Go.Proofs.YthfpmhnnjjikcabGreatDoor
open Go Go.RowKit Go.Lib
set_option linter.unusedVariables false
instance instDecC5 : DecidableEq C5 := fun a b => by unfold C5 at a b; exact inferInstance
instance instDecLC5 : DecidableEq (List C5) := fun a b => by exact instDecidableEqList a b
theorem take_snoc9 {α : Type} {E E' : List α} {k : Nat} {e e' : α} (h : E.take k = E'.take k) (h1 : E[k]? = some e) (h2 : E'[k]? = some e') (h3 : e = e') : E.take (k + 1) = E'.take (k + 1) := by
  rw [List.take_add_one, List.take_add_one, h, h1, h2, h3]
theorem ne_at9 {α : Type} {E E' : List α} {k : Nat} {e e' : α} (h1 : E[k]? = some e) (h2 : E'[k]? = some e') (h3 : ¬ e = e') : ¬ E = E' := fun h => by
  rw [h, h2] at h1
  exact h3 (Option.some.inj h1).symm
theorem ce_of {w : World} {d : CV} {e : C5} (h : d.1 = e.1 ∧ d.2.1 = e.2.1 ∧ d.2.2.1 = e.2.2.1 ∧ RN w (slV d.2.2.2) e.2.2.2) : ceV d = ceP e (slV d.2.2.2) := by
  obtain ⟨dk, dt, dv, ds⟩ := d
  obtain ⟨x1, x2, x3, _⟩ := h
  simp only at x1 x2 x3
  subst x1; subst x2; subst x3; rfl
set_option maxHeartbeats 2000000 in
set_option maxRecDepth 100000 in
theorem sameL9_any (v v' : Value) (D D' : List CV) (E E' : List C5) (w : World) (hrow : RowC w v D) (hrow' : RowC w v' D') (hre : Are w D E) (hre' : Are w D' E') (hl : E.length ≤ 2097152) (hl' : E'.length ≤ 2097152) (hA : ∀ e ∈ E, e.2.2.2.length ≤ 4194304) (hA' : ∀ e ∈ E', e.2.2.2.length ≤ 4194304) :
    Calls Tryz.prog 17 #[v, v'] w fun r w' => r = .returned (.bool (decide (E = E'))) ∧ Below w.heap.size w w' := by
  have hE := forall2_len hre
  have hE' := forall2_len hre'
  obtain ⟨n, hn⟩ : ∃ n, D.length = n := ⟨_, rfl⟩
  obtain ⟨m, hm⟩ : ∃ m, D'.length = m := ⟨_, rfl⟩
  obtain ⟨pa, ca, rfl, ha, _, hca⟩ := hrow
  obtain ⟨pb, cb, rfl, hb, _, hcb⟩ := hrow'
  rw [hn] at ha hE ⊢
  rw [hm] at hb hE' ⊢
  have HN : Hid (D.length = n ∧ D'.length = m ∧ E.length = n ∧ E'.length = m) := ⟨hn, hm, hE.symm, hE'.symm⟩
  by_cases hnm : n = m
  · subst hnm
    have HA : Hid (D ≠ [] → ∃ b off, pa = some ⟨b, off, none⟩ ∧ InC w b off D) := hca
    have HB : Hid (D' ≠ [] → ∃ b off, pb = some ⟨b, off, none⟩ ∧ InC w b off D') := hcb
    have hl : n ≤ 2097152 := by omega
    have CC : Hid (∀ (k : Nat) d d', D[k]? = some d → D'[k]? = some d' → ∃ e e', E[k]? = some e ∧ E'[k]? = some e' ∧ ∀ W, Below w.heap.size w W → Calls Tryz.prog 18 #[ceV d, ceV d'] W fun r w' => r = .returned (.bool (decide (e = e'))) ∧ Below W.heap.size W w') := fun k d d' h1 h2 => by
      obtain ⟨y, hy, r1⟩ := forall2_get hre k d h1
      obtain ⟨y', hy', r2⟩ := forall2_get hre' k d' h2
      refine ⟨y, y', hy, hy', fun W hW => ?_⟩
      rw [ce_of r1, ce_of r2]
      exact sameR9_any y y' _ _ W (r1.2.2.2.below hW).row (r2.2.2.2.below hW).row (hA y (List.mem_of_getElem? hy)) (hA' y' (List.mem_of_getElem? hy'))
    clear hca hcb hn hm hre hre' hE hE' hA hA' hl'
    go_enter Tryz.func17, Tryz.ntmps17
    go_wp2
    go_loopw [13, 5] (fun i _ wr => ∃ (k : Nat), k ≤ n ∧ i = .int .i64 k ∧ Hid (E.take k = E'.take k) ∧ Below w.heap.size w wr) (fun i _ _ => n - (RowKit.intOf i).toNat)
    case atStart => exact ⟨0, Nat.zero_le _, rfl, rfl, Below.refl _ _⟩
    case round =>
      obtain ⟨k, hk, rfl, HT, hbw⟩ := hrel
      by_cases hlt : k < n
      · have hltI : (k : Int) < n := by omega
        obtain ⟨d, hd⟩ : ∃ q, D[k]? = some q := ⟨_, List.getElem?_eq_getElem (by rw [HN.out.1]; exact hlt)⟩
        obtain ⟨d', hd'⟩ : ∃ q, D'[k]? = some q := ⟨_, List.getElem?_eq_getElem (by rw [HN.out.2.1]; exact hlt)⟩
        obtain ⟨e, e', he, he', cc⟩ := CC.out k d d' hd hd'
        obtain ⟨b, off, rfl, hin⟩ := HA.out (by intro e; rw [e] at hd; simp at hd)
        obtain ⟨b', off', rfl, hin'⟩ := HB.out (by intro e; rw [e] at hd'; simp at hd')
        obtain ⟨x0, x1, x2, x3, x4, x5⟩ := cellsC_get D k d hd
        obtain ⟨y0, y1, y2, y3, y4, y5⟩ := cellsC_get D' k d' hd'
        have c0 := (hin.below hbw) _ _ x0
        have c1 := (hin.below hbw) _ _ x1
        have c2 := (hin.below hbw) _ _ x2
        have c3 := (hin.below hbw) _ _ x3
        have c4 := (hin.below hbw) _ _ x4
        have c5 := (hin.below hbw) _ _ x5
        have d0 := (hin'.below hbw) _ _ y0
        have d1 := (hin'.below hbw) _ _ y1
        have d2 := (hin'.below hbw) _ _ y2
        have d3 := (hin'.below hbw) _ _ y3
        have d4 := (hin'.below hbw) _ _ y4
        have d5 := (hin'.below hbw) _ _ y5
        simp only [← Nat.add_assoc] at c0 c1 c2 c3 c4 c5 d0 d1 d2 d3 d4 d5
        have HEE : Hid (E[k]? = some e ∧ E'[k]? = some e') := ⟨he, he'⟩
        clear x0 x1 x2 x3 x4 x5 y0 y1 y2 y3 y4 y5 hin hin' hd hd' he he'
        obtain ⟨f, t, ⟨x, z, u⟩, p, j, c⟩ := d
        obtain ⟨f', t', ⟨x', z', u'⟩, p', j', c'⟩ := d'
        simp only [slV] at c0 c1 c2 c3 c4 c5 d0 d1 d2 d3 d4 d5
        simp only [ceV, slV] at cc
        have HU : Hid (∀ w', Below wr.drew.heap.size wr.drew w' → (w'.cell? ⟨b, off + k * 6, none⟩ = some (.int .i32 f) ∧ w'.cell? ⟨b, off + k * 6 + 1, none⟩ = some (.string t) ∧ w'.cell? ⟨b, off + k * 6 + 2, none⟩ = some (.int .i64 x) ∧ w'.cell? ⟨b, off + k * 6 + 3, none⟩ = some (.int .i64 z) ∧ w'.cell? ⟨b, off + k * 6 + 4, none⟩ = some (.string u) ∧ w'.cell? ⟨b, off + k * 6 + 5, none⟩ = some (.slice p j c) ∧ w'.cell? ⟨b', off' + k * 6, none⟩ = some (.int .i32 f') ∧ w'.cell? ⟨b', off' + k * 6 + 1, none⟩ = some (.string t') ∧ w'.cell? ⟨b', off' + k * 6 + 2, none⟩ = some (.int .i64 x') ∧ w'.cell? ⟨b', off' + k * 6 + 3, none⟩ = some (.int .i64 z') ∧ w'.cell? ⟨b', off' + k * 6 + 4, none⟩ = some (.string u') ∧ w'.cell? ⟨b', off' + k * 6 + 5, none⟩ = some (.slice p' j' c'))) := fun w' hb => ⟨(hb.cell (lt_of_cell (w := wr.drew) c0)).trans c0, (hb.cell (lt_of_cell (w := wr.drew) c1)).trans c1, (hb.cell (lt_of_cell (w := wr.drew) c2)).trans c2, (hb.cell (lt_of_cell (w := wr.drew) c3)).trans c3, (hb.cell (lt_of_cell (w := wr.drew) c4)).trans c4, (hb.cell (lt_of_cell (w := wr.drew) c5)).trans c5, (hb.cell (lt_of_cell (w := wr.drew) d0)).trans d0, (hb.cell (lt_of_cell (w := wr.drew) d1)).trans d1, (hb.cell (lt_of_cell (w := wr.drew) d2)).trans d2, (hb.cell (lt_of_cell (w := wr.drew) d3)).trans d3, (hb.cell (lt_of_cell (w := wr.drew) d4)).trans d4, (hb.cell (lt_of_cell (w := wr.drew) d5)).trans d5⟩
        have hz0 : w.heap.size ≤ wr.drew.heap.size := hbw.size
        obtain ⟨q, hq⟩ : ∃ q, decide (e = e') = q := ⟨_, rfl⟩
        rw [hq] at cc
        have HQ : Hid (decide (e = e') = q) := hq
        clear hq
        cases q with
        | true =>
          have HT2 : Hid (E.take (k + 1) = E'.take (k + 1)) := take_snoc9 HT.out HEE.out.1 HEE.out.2 (of_decide_eq_true HQ.out)
          go_wp2_with fail
          go_region_held3 (fun w' => (w'.cell? ⟨b, off + k * 6, none⟩ = some (.int .i32 f) ∧ w'.cell? ⟨b, off + k * 6 + 1, none⟩ = some (.string t) ∧ w'.cell? ⟨b, off + k * 6 + 2, none⟩ = some (.int .i64 x) ∧ w'.cell? ⟨b, off + k * 6 + 3, none⟩ = some (.int .i64 z) ∧ w'.cell? ⟨b, off + k * 6 + 4, none⟩ = some (.string u) ∧ w'.cell? ⟨b, off + k * 6 + 5, none⟩ = some (.slice p j c) ∧ w'.cell? ⟨b', off' + k * 6, none⟩ = some (.int .i32 f') ∧ w'.cell? ⟨b', off' + k * 6 + 1, none⟩ = some (.string t') ∧ w'.cell? ⟨b', off' + k * 6 + 2, none⟩ = some (.int .i64 x') ∧ w'.cell? ⟨b', off' + k * 6 + 3, none⟩ = some (.int .i64 z') ∧ w'.cell? ⟨b', off' + k * 6 + 4, none⟩ = some (.string u') ∧ w'.cell? ⟨b', off' + k * 6 + 5, none⟩ = some (.slice p' j' c')) ∧ Below w.heap.size w w')
            (exact ⟨by first | (with_reducible assumption) | (simp [*]; done), by first | (with_reducible assumption) | exact hbw.drew⟩)
            (first | (go_at_call 18; refine (cc _ ?_).mono ?_; (· first | assumption | exact hbw.drew | (apply And.right; assumption)); rintro r w3 ⟨rfl, b3⟩; have b4 : Below w.heap.size w w3 := (hbw.drew).trans (b3.mono hz0); have mm := HU.out _ b3))
          clear cc mm b3
          go_wp2
          go_roundw
          case rel => exact ⟨k + 1, by omega, by go_num, HT2, b4⟩
          case measure => simp [RowKit.intOf]; omega
        | false =>
          have hfin : Hid (decide (E = E') = false) := decide_eq_false (ne_at9 HEE.out.1 HEE.out.2 (of_decide_eq_false HQ.out))
          go_wp2_with fail
          go_region_held3 (fun w' => (w'.cell? ⟨b, off + k * 6, none⟩ = some (.int .i32 f) ∧ w'.cell? ⟨b, off + k * 6 + 1, none⟩ = some (.string t) ∧ w'.cell? ⟨b, off + k * 6 + 2, none⟩ = some (.int .i64 x) ∧ w'.cell? ⟨b, off + k * 6 + 3, none⟩ = some (.int .i64 z) ∧ w'.cell? ⟨b, off + k * 6 + 4, none⟩ = some (.string u) ∧ w'.cell? ⟨b, off + k * 6 + 5, none⟩ = some (.slice p j c) ∧ w'.cell? ⟨b', off' + k * 6, none⟩ = some (.int .i32 f') ∧ w'.cell? ⟨b', off' + k * 6 + 1, none⟩ = some (.string t') ∧ w'.cell? ⟨b', off' + k * 6 + 2, none⟩ = some (.int .i64 x') ∧ w'.cell? ⟨b', off' + k * 6 + 3, none⟩ = some (.int .i64 z') ∧ w'.cell? ⟨b', off' + k * 6 + 4, none⟩ = some (.string u') ∧ w'.cell? ⟨b', off' + k * 6 + 5, none⟩ = some (.slice p' j' c')) ∧ Below w.heap.size w w')
            (exact ⟨by first | (with_reducible assumption) | (simp [*]; done), by first | (with_reducible assumption) | exact hbw.drew⟩)
            (first | (go_at_call 18; refine (cc _ ?_).mono ?_; (· first | assumption | exact hbw.drew | (apply And.right; assumption)); rintro r w3 ⟨rfl, b3⟩; have b4 : Below w.heap.size w w3 := (hbw.drew).trans (b3.mono hz0); have mm := HU.out _ b3))
          clear cc mm b3
          go_wp2
          go_ret
          exact ⟨by rw [hfin.out]; rfl, b4⟩
      · have hltI : ¬ (k : Int) < n := by omega
        have hfin : Hid (decide (E = E') = true) := decide_eq_true (by
          have := HT.out
          rwa [List.take_of_length_le (by rw [HN.out.2.2.1]; omega), List.take_of_length_le (by rw [HN.out.2.2.2]; omega)] at this)
        go_wp2
        go_ret
        exact ⟨by rw [hfin.out]; rfl, hbw⟩
  · have hne : ((n : Int) != m) = true := by simp; omega
    have hfin : Hid (decide (E = E') = false) := decide_eq_false (fun h => hnm (by rw [← HN.out.2.2.1, ← HN.out.2.2.2, h]))
    clear hca hcb hn hm hre hre' hE hE' hA hA' hnm HN hl hl'
    go_enter Tryz.func17, Tryz.ntmps17
    go_wp2
    go_ret
    exact ⟨by rw [hfin.out]; rfl, Below.refl _ _⟩

set_option maxHeartbeats 2000000 in
theorem op9_any (e : C5) (p : Option Addr) (l c : Nat) (w : World) (hb : ¬ badC e) :
    Calls Tryz.prog 83 #[ceP e (.slice p l c)] w fun r w' => r = .returned (opV (opOf e) (.slice p l c)) ∧ Below w.heap.size w w' := by
  obtain ⟨k, t, ⟨x, n, u⟩, A⟩ := e
  have b0 := (Below.refl w.heap.size w).alloc (Nat.le_refl _) (.cells (ceA (k, t, (x, n, u), A) (.slice p l c)) 39)
  simp only [ceA] at b0
  by_cases hk : k = -1
  · subst hk
    rw [show opOf (-1, t, (x, n, u), A) = ⟨2, t, (x, n, u), 0, A⟩ from rfl]
    clear hb
    go_enter Tryz.func83, Tryz.ntmps83
    go_wp2
    exact bodyPost_ret (v := opV ⟨2, t, (x, n, u), 0, A⟩ (.slice p l c)) (by simp [results, Tryz.results83, go_sem]) rfl ⟨rfl, by go_grown⟩
  · have h1 : isScal k ∧ t = ⟨#[]⟩ ∧ ((x, n, u) : P3) = z0 := by
      unfold badC at hb
      simp only [ne_eq, not_and, not_or, Decidable.not_not] at hb
      exact hb hk
    obtain ⟨h1, rfl, h3⟩ := h1
    simp only [z0, Prod.mk.injEq] at h3
    obtain ⟨rfl, rfl, rfl⟩ := h3
    obtain ⟨r, rfl, hr⟩ := scal_of h1
    rw [show opOf ((r : Int), ⟨#[]⟩, (0, 0, ⟨#[]⟩), A) = ⟨1, ⟨(enc r).toArray⟩, z0, 0, A⟩ from opOf_scal hr A]
    have hr1 : ((r : Int) == -1) = false := by rw [beq_eq_false_iff_ne]; omega
    have henc := encU_eq hr
    obtain ⟨t0, ht0⟩ : ∃ t0, (⟨(enc r).toArray⟩ : ByteArray) = t0 := ⟨_, rfl⟩
    rw [ht0] at henc ⊢
    clear hb h1 hr hk ht0
    go_enter Tryz.func83, Tryz.ntmps83
    go_wp2
    exact bodyPost_ret (v := opV ⟨1, t0, z0, 0, A⟩ (.slice p l c)) (by simp [results, Tryz.results83, go_sem, z0]) rfl ⟨rfl, by go_grown⟩
set_option maxHeartbeats 4000000 in
set_option maxRecDepth 100000 in
theorem doc9_any {w0 : World} (v : Value) (D0 : List CV) (E : List C5) (w : World) (hb0 : Below w0.heap.size w0 w) (hrow : RowC w v D0) (hre : Are w0 D0 E) (hg : ∀ e ∈ E, celE e = 0) (ok : OkE (E.map opOf)) (hl : E.length ≤ 1048576) :
    Calls Tryz.prog 47 #[v] w fun r w' => ∃ lv, r = .returned lv ∧ (∃ D', FarO w' w.heap.size lv D' ∧ ReD w0 D' (docOf E)) ∧ Below w.heap.size w w' := by
  have hDE := forall2_len hre
  obtain ⟨n, hn⟩ : ∃ n, D0.length = n := ⟨_, rfl⟩
  obtain ⟨p, cap, rfl, hcap, hnz, hc⟩ := hrow
  have HC : Hid (D0 ≠ [] → ∃ b off, p = some ⟨b, off, none⟩ ∧ InC w b off D0) := hc
  have HN : Hid (D0.length = n ∧ E.length = n) := ⟨hn, by rw [← hDE, hn]⟩
  have HE : Hid (Are w0 D0 E ∧ (∀ e ∈ E, celE e = 0) ∧ OkE (E.map opOf)) := ⟨hre, hg, ok⟩
  have hl : n ≤ 1048576 := by rw [← hn, hDE]; exact hl
  have HB0 : Hid (Below w0.heap.size w0 w) := hb0
  rw [hn] at hcap ⊢
  clear hc hn hDE hre hg ok hnz hb0
  have o0 := own_emptyO w w.heap.size (Nat.le_refl _)
  have b0 := (Below.refl w.heap.size w).alloc (Nat.le_refl _) (.cells #[] 74)
  obtain ⟨W0, hW0⟩ : ∃ W, W = w.alloc (.cells #[] 74) := ⟨_, rfl⟩
  obtain ⟨v0, hv0⟩ : ∃ v0 : Value, v0 = .slice (some ⟨w.heap.size, 0, none⟩) 0 0 := ⟨_, rfl⟩
  rw [← hW0, ← hv0] at o0
  rw [← hW0] at b0
  go_enter Tryz.func47, Tryz.ntmps47
  go_wp2
  rw [← hW0, ← hv0]
  clear hW0 hv0
  go_loopw [3, 9] (fun o i wr => ∃ (k : Nat) (D : List OV), k ≤ n ∧ i = .int .i64 k ∧ Hid (OwnO wr w.heap.size o D ∧ ReD w0 D ((E.take k).map opOf) ∧ D.length = k) ∧ Below w.heap.size w wr) (fun _ i _ => n - (RowKit.intOf i).toNat)
  case atStart => exact ⟨0, [], Nat.zero_le _, rfl, ⟨o0, by rw [List.take_zero]; exact .nil, rfl⟩, b0⟩
  case round =>
    clear o0 b0
    obtain ⟨k, D, hk, rfl, HD, hbw⟩ := hrel
    by_cases hlt : k < n
    · have hltI : (k : Int) < n := by omega
      obtain ⟨d, hd⟩ : ∃ d, D0[k]? = some d := ⟨_, List.getElem?_eq_getElem (by rw [HN.out.1]; exact hlt)⟩
      obtain ⟨e, he, hr⟩ := forall2_get HE.out.1 k d hd
      obtain ⟨b, off, rfl, hin⟩ := HC.out (by intro e; rw [e] at hd; simp at hd)
      obtain ⟨x0, x1, x2, x3, x4, x5⟩ := cellsC_get D0 k d hd
      have c0 := (hin.below hbw) _ _ x0
      have c1 := (hin.below hbw) _ _ x1
      have c2 := (hin.below hbw) _ _ x2
      have c3 := (hin.below hbw) _ _ x3
      have c4 := (hin.below hbw) _ _ x4
      have c5 := (hin.below hbw) _ _ x5
      simp only [← Nat.add_assoc] at c0 c1 c2 c3 c4 c5
      have hgd := HE.out.2.1 e (List.mem_of_getElem? he)
      have cS := op9_any e d.2.2.2.1 d.2.2.2.2.1 d.2.2.2.2.2 (wr.alloc (.cells (ceC d) 39)) (not_bad hgd)
      rw [show ceP e (.slice d.2.2.2.1 d.2.2.2.2.1 d.2.2.2.2.2) = ceV d from (ce_of hr).symm] at cS
      have HT : Hid (E.take (k + 1) = E.take k ++ [e]) := by show _ = _; rw [List.take_add_one, he]; rfl
      have HR : Hid (RN w0 (slV d.2.2.2) (opOf e).A) := by show RN _ _ _; rw [opOf_A]; exact hr.2.2.2
      obtain ⟨o, ho⟩ : ∃ o, opOf e = o := ⟨_, rfl⟩
      have HOE : Hid (opOf e = o) := ho
      rw [ho] at cS HR
      have bw : Below wr.heap.size wr (wr.alloc (.cells (ceC d) 39)) := (Below.refl _ _).alloc (Nat.le_refl _) _
      clear hd he hr hin x0 x1 x2 x3 x4 x5 hgd ho
      obtain ⟨dk, dt, ⟨dx, dn, du⟩, ds⟩ := d
      obtain ⟨dp, dl, dcap⟩ := ds
      obtain ⟨ok, ot, ⟨ox, on, ou⟩, oc, oA⟩ := o
      simp only [slV, ceC, ceV] at c0 c1 c2 c3 c4 c5 cS bw HR
      go_wp2_with fail
      refine cS.mono ?_; rintro r w5 ⟨rfl, hb5⟩
      have b5 := bw.trans (hb5.mono bw.size)
      have ba : Below w5.heap.size w5 (w5.alloc (.cells #[.int .i64 ok, .string ot, .int .i64 ox, .int .i64 on, .string ou, .int .i64 oc, .slice dp dl dcap] 74)) := (Below.refl _ _).alloc (Nat.le_refl _) _
      have b6 := b5.trans (ba.mono b5.size)
      have HO7 : Hid (OwnO (w5.alloc (.cells #[.int .i64 ok, .string ot, .int .i64 ox, .int .i64 on, .string ou, .int .i64 oc, .slice dp dl dcap] 74)) w.heap.size u3 D ∧ OpAt (w5.alloc (.cells #[.int .i64 ok, .string ot, .int .i64 ox, .int .i64 on, .string ou, .int .i64 oc, .slice dp dl dcap] 74)) w5.heap.size 0 (ok, ot, (ox, on, ou), oc, dp, dl, dcap)) := ⟨owns_below HD.out.1 b6, ⟨by simp, by simp, by simp, by simp, by simp, by simp, by simp⟩⟩
      have HP7 : Hid (ReD w0 (D ++ [(ok, ot, (ox, on, ou), oc, dp, dl, dcap)]) ((E.take (k + 1)).map opOf) ∧ (D ++ [(ok, ot, (ox, on, ou), oc, dp, dl, dcap)]).length = k + 1) := by
        refine ⟨?_, by rw [List.length_append, HD.out.2.2]; rfl⟩
        rw [HT.out, List.map_append]
        exact forall2_append HD.out.2.1 (.cons (by rw [HOE.out]; exact ⟨rfl, rfl, rfl, rfl, HR.out⟩) .nil)
      have hge : Hid (∀ j, u3.ownBlock = some j → w.heap.size ≤ j) := fun j hj => (owns_block HD.out.1 j hj).1
      have bw7 := hbw.trans (b6.mono hbw.size)
      have hlen : D.length ≤ 33554432 := by have := HD.out.2.2; omega
      clear HD HT HR HOE cS bw hb5 b5 ba b6 c0 c1 c2 c3 c4 c5
      go_wp2_with (at_builtin; refine wpList_append_ops rfl (.tmp 13) (.tmp 16) rfl w.heap.size u3 D rfl HO7.out.1 w5.heap.size 1 _ rfl HO7.out.2 hlen bw7.size ?_; intro v8 w8 own8 gr8 hat8)
      have b8 := bw7.grown gr8 bw7.size (fun j hj => hge.out j hj)
      go_roundw
      case rel => exact ⟨k + 1, _, by omega, by go_num, ⟨own8, HP7.out.1, HP7.out.2⟩, b8⟩
      case measure => simp [RowKit.intOf]; omega
    · have hltI : ¬ (k : Int) < n := by omega
      have hE : E.take k = E := List.take_of_length_le (by rw [HN.out.2]; omega)
      obtain ⟨h1, h2, h3⟩ := HD.out
      rw [hE] at h2
      have cD := canon6_any (w0 := w0) u3 D (E.map opOf) wr (HB0.out.trans (hbw.mono HB0.out.size)) (own_rowO h1) h2 HE.out.2.2
      clear h1 h2 h3 HD hE
      go_wp2_with fail
      refine cD.mono ?_; rintro r w5 ⟨lv, rfl, ⟨D', hf, hr'⟩, hb5⟩
      have b5 := hbw.trans (hb5.mono hbw.size)
      have HF : Hid (∃ D', FarO w5 w.heap.size lv D' ∧ ReD w0 D' (docOf E)) := ⟨D', hf.weaken hbw.size, hr'⟩
      clear cD hf hr' hb5
      go_wp2
      go_ret
      exact ⟨lv, rfl, HF.out, b5⟩
set_option maxHeartbeats 4000000 in
set_option maxRecDepth 100000 in
theorem refOf9_any {I : List Nat} {a : Nat → Addr} {w0 : World} (v : Value) (D0 : List CV) (E : List C5) (w : World) (hS : Std I a w) (hb0 : Below w0.heap.size w0 w) (hrow : RowC w v D0) (hre : Are w0 D0 E) (hF : ∀ e ∈ E, FitC e) (hl : E.length ≤ 1048576) (ht : txtS (E.map opOf) ≤ 8388608) :
    Calls Tryz.prog 11 #[v] w fun r w' => ∃ lv, r = .returned (.tuple #[lv, .int .i64 (celP E).1, .int .i64 (celP E).2]) ∧ ((celP E).2 = 0 → ∃ D', FarO w' w.heap.size lv D' ∧ ReD w0 D' (docOf E)) ∧ ((celP E).2 ≠ 0 → lv = .slice none 0 0) ∧ Below w.heap.size w w' := by
  have hDE := forall2_len hre
  obtain ⟨n, hn⟩ : ∃ n, D0.length = n := ⟨_, rfl⟩
  have HW : Hid (RowC w v D0 ∧ Are w0 D0 E ∧ (∀ e ∈ E, FitC e) ∧ txtS (E.map opOf) ≤ 8388608) := ⟨hrow, hre, hF, ht⟩
  have HB0 : Hid (Below w0.heap.size w0 w) := hb0
  obtain ⟨p, cap, rfl, hcap, hnz, hc⟩ := hrow
  have HC : Hid (D0 ≠ [] → ∃ b off, p = some ⟨b, off, none⟩ ∧ InC w b off D0) := hc
  have HN : Hid (D0.length = n ∧ E.length = n) := ⟨hn, by rw [← hDE, hn]⟩
  have hl : n ≤ 1048576 := by rw [← hn, hDE]; exact hl
  have HK : Hid (∀ W (k : Nat) d e, Below w.heap.size w W → D0[k]? = some d → E[k]? = some e → Calls Tryz.prog 46 #[ceV d] W fun r w' => r = .returned (.int .i64 (celE e)) ∧ Below W.heap.size W w') := fun W k d e hW h1 h2 => by
    obtain ⟨y, hy, r1⟩ := forall2_get hre k d h1
    obtain rfl : y = e := Option.some.inj (hy.symm.trans h2)
    rw [ce_of r1]
    exact checkR9_any y _ _ _ W (hS.below hW) ((r1.2.2.2.below hb0).below hW) (hF y (List.mem_of_getElem? hy))
  have HE : Hid (∀ k d, D0[k]? = some d → ∃ e, E[k]? = some e) := fun k d h => by obtain ⟨y, hy, _⟩ := forall2_get hre k d h; exact ⟨y, hy⟩
  rw [hn] at hcap HW ⊢
  clear hc hn hDE hre hnz hF hS ht hb0
  go_enter Tryz.func11, Tryz.ntmps11
  go_wp2
  go_loopw [10] (fun i wr => ∃ (k : Nat), k ≤ n ∧ i = .int .i64 k ∧ Hid (∀ e ∈ E.take k, celE e = 0) ∧ Below w.heap.size w wr) (fun i _ => n - (RowKit.intOf i).toNat)
  case atStart => exact ⟨0, Nat.zero_le _, rfl, fun e he => (by rw [List.take_zero] at he; cases he), Below.refl _ _⟩
  case round =>
    obtain ⟨k, hk, rfl, HO, hbw⟩ := hrel
    by_cases hlt : k < n
    · have hltI : (k : Int) < n := by omega
      obtain ⟨d, hd⟩ : ∃ d, D0[k]? = some d := ⟨_, List.getElem?_eq_getElem (by rw [HN.out.1]; exact hlt)⟩
      obtain ⟨e, he⟩ := HE.out k d hd
      obtain ⟨b, off, rfl, hin⟩ := HC.out (by intro e; rw [e] at hd; simp at hd)
      obtain ⟨x0, x1, x2, x3, x4, x5⟩ := cellsC_get D0 k d hd
      have c0 := (hin.below hbw) _ _ x0
      have c1 := (hin.below hbw) _ _ x1
      have c2 := (hin.below hbw) _ _ x2
      have c3 := (hin.below hbw) _ _ x3
      have c4 := (hin.below hbw) _ _ x4
      have c5 := (hin.below hbw) _ _ x5
      simp only [← Nat.add_assoc] at c0 c1 c2 c3 c4 c5
      have bw : Below wr.heap.size wr (wr.alloc (.cells (ceC d) 39)) := (Below.refl _ _).alloc (Nat.le_refl _) _
      have ba : Below w.heap.size w (wr.alloc (.cells (ceC d) 39)) := hbw.trans (bw.mono hbw.size)
      have cP := HK.out _ k d e ba hd he
      have HT : Hid (E.take (k + 1) = E.take k ++ [e] ∧ E[k]? = some e) := by refine ⟨?_, he⟩; rw [List.take_add_one, he]; rfl
      obtain ⟨rz, hrz⟩ : ∃ z, celE e = z := ⟨_, rfl⟩
      rw [hrz] at cP
      cases rz with
      | zero =>
        have HO2 : Hid (∀ e ∈ E.take (k + 1), celE e = 0) := by
          show ∀ e ∈ E.take (k + 1), celE e = 0
          rw [HT.out.1]
          intro y hy
          rcases List.mem_append.1 hy with hy | hy
          · exact HO.out y hy
          · rw [List.mem_singleton.1 hy]; exact hrz
        clear HO hin hd he hrz HT x0 x1 x2 x3 x4 x5 bw
        obtain ⟨dk, dt, ⟨dx, dn, du⟩, ds⟩ := d
        obtain ⟨dp, dl, dcap⟩ := ds
        simp only [slV, ceC, ceV] at c0 c1 c2 c3 c4 c5 cP ba
        go_wp2_with fail
        refine cP.mono ?_; rintro r w5 ⟨rfl, h5⟩
        have b5 : Below w.heap.size w w5 := ba.trans (h5.mono ba.size)
        clear cP c0 c1 c2 c3 c4 c5 ba h5
        go_wp2
        go_roundw
        case rel => exact ⟨k + 1, by omega, by go_num, HO2, b5⟩
        case measure => simp [RowKit.intOf]; omega
      | succ x =>
        have HB : Hid (celP E = (k, x + 1)) := by
          have := cel_at he HO.out (by rw [hrz]; omega)
          rw [hrz] at this
          exact this
        obtain ⟨xx, hxx⟩ : ∃ xx : Int, ((x + 1 : Nat) : Int) = xx := ⟨_, rfl⟩
        have hx0 : (xx != 0) = true := by rw [bne_iff_ne]; omega
        have HXX : Hid (((x + 1 : Nat) : Int) = xx) := hxx
        rw [hxx] at cP
        clear HO hin hd he hrz HT x0 x1 x2 x3 x4 x5 bw hxx
        obtain ⟨dk, dt, ⟨dx, dn, du⟩, ds⟩ := d
        obtain ⟨dp, dl, dcap⟩ := ds
        simp only [slV, ceC, ceV] at c0 c1 c2 c3 c4 c5 cP ba
        go_wp2_with fail
        refine cP.mono ?_; rintro r w5 ⟨rfl, hb5⟩
        have b5 := ba.trans (hb5.mono ba.size)
        clear cP c0 c1 c2 c3 c4 c5 ba hb5
        go_wp2
        go_ret3
        exact ⟨.slice none 0 0, by rw [HB.out, ← HXX.out]; rfl, fun h => (by rw [HB.out] at h; cases h), fun _ => rfl, b5⟩
    · have hltI : ¬ (k : Int) < n := by omega
      have hE : E.take k = E := List.take_of_length_le (by rw [HN.out.2]; omega)
      rw [hE] at HO
      have HB : Hid (celP E = (0, 0)) := cel_none HO.out
      have cD := doc9_any (w0 := w0) _ D0 E wr (HB0.out.trans (hbw.mono HB0.out.size)) (HW.out.1.below hbw) HW.out.2.1 HO.out (okE_cells HO.out HW.out.2.2.1 HW.out.2.2.2 (by rw [HN.out.2]; exact hl)) (by rw [HN.out.2]; exact hl)
      clear hE HO
      go_wp2_with fail
      refine cD.mono ?_; rintro r w5 ⟨lv, rfl, ⟨D', h5, h6⟩, hb5⟩
      have HFF : Hid (∃ D', FarO w5 w.heap.size lv D' ∧ ReD w0 D' (docOf E)) := ⟨D', h5.weaken hbw.size, h6⟩
      have b5 := hbw.trans (hb5.mono hbw.size)
      clear cD h5 h6 hb5
      go_wp2
      go_ret3
      exact ⟨lv, by rw [HB.out]; rfl, fun _ => HFF.out, fun h => absurd (by rw [HB.out]) h, b5⟩
end Go.Proofs.YthfpmhnnjjikcabGreatDoor
