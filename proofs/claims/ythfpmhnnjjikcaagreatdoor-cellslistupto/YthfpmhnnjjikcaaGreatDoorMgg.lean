/- What cells.Each's function hands over, for whatever loop body. cells.List of a document. cells.insert, cells.Check. cells.push, cells.Of. cells.Check; the document's Check of a cell. cells.Of of any list of cells. What vellumref04.Refuse and Check answer: what an insert is refused with. What vellumref04.copied and vellumref04.Join answer. What vellumref04.Length answers of inserts. What vellumref04.Length, Cells and Newlines answer of inserts. The document's deltas: Same, SameOp, Insert, Len. The document's deltas: push: an operation put behind others. The document's deltas: Canonical: the canonical list of operations. The document's deltas: Len. vellumhand.Make, Is; vellumlaw06's gone, text, large, lives. vellumlaw06.lives answers true. Canonical lists of operations in order are in order. -/
import Derived.Test.YthfpmhnnjjikcaaGreatDoorMgf
import Derived.BigQuiet
import Derived.BigRegion
import Derived.Test.YthfpmhnnjjikcaaGreatDoorMgd
import Derived.Test.YthfpmhnnjjikcaaGreatDoorCc
import Derived.Test.YthfpmhnnjjikcaaGreatDoorMge
import Derived.Test.YthfpmhnnjjikcaaGreatDoorQb
import Derived.Test.YthfpmhnnjjikcaaGreatDoorSw
import Derived.Test.YthfpmhnnjjikcaaGreatDoorMgb
import Derived.Deep.RegionHeld3
import Derived.Test.YthfpmhnnjjikcaaGreatDoorCf
import Derived.Deep.DeepCutAuto
import Derived.Test.YthfpmhnnjjikcaaGreatDoorMgc
import Derived.OneCell

/- What cells.Each's function hands over, for whatever loop body. -/
namespace Go.Proofs.YthfpmhnnjjikcaaGreatDoor
open Go Go.RowKit Go.Lib Go.Shelf
set_option linter.unusedVariables false
attribute [local go_sem] Oper.semAt_some

theorem roundIn_any9 {n m l l1 l2 : Nat} {P : Program} {f : FuncId} {tmps : Array Value} {assign body : Code} {w : World} {R : Ending → World → Prop} (h : RoundIn Fence.wide n P l f tmps assign body w R) : RoundIn ((Fence.wide.inRound l1).inRound l2) m P l f tmps assign body w R :=
  ⟨h.1, fun c cs _ => h.2 c cs (fun _ h => (by cases h))⟩
/-- A cell that is told, with its number. -/
abbrev EZ : Type := Nat × CZ
abbrev encE9 (x : EZ) : Array Value := #[.int .i64 x.1, ceV x.2.1]
def GE9 (L : List C5) (B0 : Nat) (pre : List EZ) (x : EZ) (W : World) : Prop := x.1 = pre.length ∧ ∃ e, L[pre.length]? = some e ∧ x.2.1.1 = e.1 ∧ x.2.1.2.1 = e.2.1 ∧ x.2.1.2.2.1 = e.2.2.1 ∧ InA W x.2.2.1 x.2.2.2 (slV x.2.1.2.2.2) e.2.2.2 ∧ B0 ≤ x.2.2.1 ∧ x.2.2.2 ≤ W.heap.size ∧ ∀ y ∈ pre, y.2.2.2 ≤ x.2.2.1
/-- A document's cells; none of what is no document. -/
def docC9 (E : List Op5) : List C5 := if sumB E = 0 then cellsL E else []
theorem docC9_yes {E : List Op5} (h : sumB E = 0) : docC9 E = cellsL E := if_pos h
/-- What a round keeps. -/
structure KE9 (B0 : Nat) (pre : List EZ) (x : EZ) (A A' : World) : Prop where
  size : A.heap.size ≤ A'.heap.size
  own : ∀ (k : Nat) (cs : Array Value) (t : TypeId), A.heap[k]? = some (.cells cs t (0, 0)) → (t = 188 ∨ t = 192 ∨ t = 56 ∨ (B0 ≤ k ∧ t ≠ 84 ∧ t ≠ 163)) → A'.heap[k]? = some (.cells cs t (0, 0))
  ite : ∀ (k : Nat) (t : ByteArray) (p : Nat), A.heap[k]? = some (.stringIter t p) → A'.heap[k]? = some (.stringIter t p)
  att : ∀ (k : Nat) (cs : Array Value), A.heap[k]? = some (.cells cs 163 (0, 0)) → (k < x.2.2.1 ∨ x.2.2.2 ≤ k) → A'.heap[k]? = some (.cells cs 163 (0, 0))
theorem GE9.bk {L : List C5} {B0 B C : Nat} {pre : List EZ} {x : EZ} {A A' : World} (h : GE9 L B0 pre x A) (k : Bk9 B C A A') : GE9 L B0 pre x A' := by
  obtain ⟨h0, e, h1, h2, h3, h4, h5, h6, h7, h8⟩ := h
  exact ⟨h0, e, h1, h2, h3, h4, ina_same h5 fun j cs hj _ _ => k.cells hj, h6, Nat.le_trans h7 k.size, h8⟩
theorem KE9.bk {B0 B Z : Nat} {pre : List EZ} {x : EZ} {A A' C C' : World} (k1 : Bk9 B Z A A') (h : KE9 B0 pre x A' C) (k2 : Bk9 B Z C C') : KE9 B0 pre x A C' :=
  ⟨Nat.le_trans k1.size (Nat.le_trans h.size k2.size), fun k cs t hk ht => k2.cells (h.own k cs t (k1.cells hk) ht), fun k t p hk => k2.ite (h.ite k t p (k1.ite hk)), fun k cs hk ho => k2.cells (h.att k cs (k1.cells hk) ho)⟩
/-- What the two loops keep: the yield function in its box, the number in its. -/
structure St9 (l F I : Nat) (J : List EZ → World → Prop) (xs : List EZ) (W : World) : Prop where
  j : J xs W
  f : W.heap[F]? = some (.cells #[.func (.yield l) #[] #[]] 178 (0, 0))
  i : W.heap[I]? = some (.cells #[.int .i64 xs.length] 3 (0, 0))
theorem KZ.step9 {pre : List PZ} {x : PZ} {A B C : World} (h : KZ pre x A B) (hs : B.heap.size ≤ C.heap.size) (hp : ∀ (k : Nat) (cs : Array Value), B.heap[k]? = some (.cells cs 56 (0, 0)) → C.heap[k]? = some (.cells cs 56 (0, 0))) (ha : ∀ (k : Nat) (cs : Array Value), k < A.heap.size → B.heap[k]? = some (.cells cs 163 (0, 0)) → C.heap[k]? = some (.cells cs 163 (0, 0))) : KZ pre x A C :=
  ⟨Nat.le_trans h.size hs, fun k cs hk => hp k cs (h.pie k cs hk), fun k cs hk ho => ha k cs (Array.getElem?_eq_some_iff.1 hk).1 (h.att k cs hk ho)⟩
theorem tr7_set9 {T : TypeId → Prop} {B I : Nat} {W : World} {cs : Array Value} {t : TypeId} (hI : W.heap[I]? = some (.cells cs t (0, 0))) (hB : B ≤ I) (ht : T t) (j : Nat) (u : Value) : Tr7 T B W (W.setCell ⟨I, j, none⟩ u) :=
  ⟨rfl, rfl, rfl, by simp, fun k o hk ho => by
    have hne : k ≠ I := fun e => by
      subst e; rw [hI] at hk; cases hk
      rcases ho with ho | ⟨_, _, _, e, hn⟩
      · omega
      · cases e; exact hn ht
    exact (Below.heap_setCell _ _ _ _ hne).trans hk⟩

theorem St9.tr {l F I B C : Nat} {J : List EZ → World → Prop} {xs : List EZ} {A A' : World} (h : St9 l F I J xs A) (hJ : ∀ q W1 W2, J q W1 → Tr7 (fun t => t = 3) C W1 W2 → J q W2) (k : Tr7 (fun _ => False) B A A') (hB : C ≤ B) (hFI : F < B ∧ I < B) : St9 l F I J xs A' :=
  ⟨hJ _ _ _ h.j (k.mono (fun _ h => h.elim) hB), k.kept _ _ h.f (.inl hFI.1), k.kept _ _ h.i (.inl hFI.2)⟩
theorem tr7_put9 {T : TypeId → Prop} {B D : Nat} {W : World} {o o' : Obj} (hK : W.heap[D]? = some o) (hB : B ≤ D) (ho : o.isCells = false := by rfl) : Tr7 T B W (W.putObj D o') :=
  ⟨rfl, rfl, rfl, by simp, fun k x hk hx => by
    have : k ≠ D := fun e => by
      subst e; rw [hK] at hk; cases hk
      rcases hx with hx | ⟨_, _, _, e, _⟩
      · omega
      · rw [e] at ho; cases ho
    exact (World.putObj_heap_other this).trans hk⟩
theorem doc_base9 {E : List Op5} (hg : ∀ o ∈ E, opE o = 0) (h : sumB E = 0) : ∀ o ∈ E, Ins o := fun o ho => by
  have hw : ∀ x ∈ E, Wel x := fun x hx => wel_of (hg x hx)
  obtain ⟨h1, _⟩ := mem_sums hw ho
  rw [h] at h1
  have hp := len5_pos (hg o ho)
  have hk := (hw o ho).kinds
  have h2 : o.k = 1 ∨ o.k = 2 := by
    unfold baseO at h1
    rcases hk with hk | hk | hk | hk
    · exact .inl hk
    · exact .inr hk
    · simp [hk] at h1; omega
    · simp [hk] at h1; omega
  rcases op_good (hg o ho) with ⟨h3, _⟩ | ⟨_, _, h3⟩ | ⟨_, _, h3⟩
  · exact h3
  · omega
  · omega
theorem cells_at9 {E : List Op5} {j k : Nat} {e : Op5} {c : C5} (he : E[j]? = some e) (hc : (cellsOf e)[k]? = some c) : (cellsL E)[(cellsL (E.take j)).length + k]? = some c := by
  have h1 : cellsL E = cellsL (E.take j) ++ (cellsOf e ++ cellsL (E.drop (j + 1))) := by
    obtain ⟨hj, rfl⟩ := List.getElem?_eq_some_iff.1 he
    conv => lhs; rw [← List.take_append_drop j E, List.drop_eq_getElem_cons hj]
    unfold cellsL
    rw [List.flatMap_append, List.flatMap_cons]
  rw [h1, List.getElem?_append_right (by omega), Nat.add_sub_cancel_left, List.getElem?_append_left (List.getElem?_eq_some_iff.1 hc).1]
  exact hc
theorem eachC_leave {n : Nat} (D : Nat) (W : World) (tmps : Array Value) {R1 R2 : World → Prop} (hK : W.heap[D]? = some (.deferred (some []))) (h : R1 (W.putObj D (.deferred none))) :
    bodyPostM Fence.wide n Tryz.prog Tryz.f115 (fun e w' => (∃ v, e = .returned v) ∧ (R1 w' ∨ R2 w')) Exit.normal { tmps := tmps, defers := [{ target := .collected D, args := #[] }] } W := by
  refine ⟨by simp, .inl ⟨_, _, rfl, run_takeDeferred hK, ?_⟩⟩
  exact ⟨_, results_none rfl _ _ _, ⟨_, rfl⟩, .inl h⟩
theorem eachC_leaveX {n : Nat} (D : Nat) (W : World) (tmps : Array Value) {R1 R2 : World → Prop} (hK : W.heap[D]? = some (.deferred (some []))) (h : R2 (W.putObj D (.deferred none))) :
    bodyPostM Fence.wide n Tryz.prog Tryz.f115 (fun e w' => (∃ v, e = .returned v) ∧ (R1 w' ∨ R2 w')) Exit.ret { tmps := tmps, defers := [{ target := .collected D, args := #[] }] } W := by
  refine ⟨by simp, .inl ⟨_, _, rfl, run_takeDeferred hK, ?_⟩⟩
  exact ⟨_, results_none rfl _ _ _, ⟨_, rfl⟩, .inr h⟩
set_option maxHeartbeats 8000000 in
set_option maxRecDepth 100000 in
theorem eachC_seq {B1 B2 : Nat} (E : List Op5) (w0 : World) (x : Nat) (hT : ∃ v, w0.cell? ⟨x, 0, none⟩ = some v ∧ DlE w0 B1 B2 v E) (m : Nat) (hbig : (cellsL E).length ≤ 1099511627776) (hm : m = if sumB E = 0 then (cellsL E).length else 0) (n : Nat) (hn : 12 ≤ n) :
    SeqG9 Fence.wide n Tryz.prog 115 #[.pointer (some ⟨x, 0, none⟩)] encE9 (fun t => t = 3) (GE9 (docC9 E) w0.heap.size) (fun _ => KE9 w0.heap.size) (fun xs => xs.length = m) w0 := fun l J Jx W hW hJ hJx hY h0 => by
  obtain ⟨v, hx, hd⟩ := hT
  obtain ⟨q, rfl⟩ : ∃ q, v = .pointer (some ⟨q, 0, none⟩) := by obtain ⟨q, _, _, e, _⟩ := hd.d; exact ⟨q, e⟩
  have bA : Below W.heap.size W (W.alloc (.cells #[.func (.yield l) #[] #[]] 178)) := (Below.refl _ _).alloc (Nat.le_refl _) _
  have hF0 := heap_alloc_new W (.cells #[.func (.yield l) #[] #[]] 178)
  obtain ⟨WA, hWA⟩ : ∃ WA, WA = W.alloc (.cells #[.func (.yield l) #[] #[]] 178) := ⟨_, rfl⟩
  rw [← hWA] at bA hF0
  have c0 : WA.cell? ⟨x, 0, none⟩ = some (.pointer (some ⟨q, 0, none⟩)) := ((hW.trans (bA.mono hW.size)).cell (lt_of_cell hx)).trans hx
  have hdA : DlE WA B1 B2 (.pointer (some ⟨q, 0, none⟩)) E := (hd.below hW).below bA
  have cD := doc8_any _ E WA hdA
  have HD : Hid (DlE WA B1 B2 (.pointer (some ⟨q, 0, none⟩)) E) := hdA
  have HJ : Hid (∀ q W1 W2, J q W1 → Tr7 (fun t => t = 3) W.heap.size W1 W2 → J q W2) := hJ
  have HX : Hid (∀ q W1 W2, Jx q W1 → Tr7 (fun t => t = 3) W.heap.size W1 W2 → Jx q W2) := hJx
  have HY : Hid (∀ pre x W1, J pre W1 → GE9 (docC9 E) w0.heap.size pre x W1 → YieldAt Fence.wide (n - 1) Tryz.prog l (encE9 x) W1 fun e W' =>
      (e = .returned (.bool true) ∧ J (pre ++ [x]) W' ∧ KE9 w0.heap.size pre x W1 W' ∧ NcK W.heap.size W1 W') ∨ (e = .returned (.bool false) ∧ Jx (pre ++ [x]) W' ∧ NcK W.heap.size W1 W')) := hY
  have HN : Hid (12 ≤ n ∧ w0.heap.size ≤ W.heap.size) := ⟨hn, hW.size⟩
  have HG : Hid ((cellsL E).length ≤ 1099511627776) := hbig
  have HA : Hid (Below W.heap.size W WA ∧ WA.heap[W.heap.size]? = some (.cells #[.func (.yield l) #[] #[]] 178 (0, 0)) ∧ J [] W) := ⟨bA, hF0, h0⟩
  obtain ⟨bb, hbb⟩ : ∃ bb, (sumB E == 0) = bb := ⟨_, rfl⟩
  rw [hbb] at cD
  have HB : Hid ((sumB E == 0) = bb ∧ m = if sumB E = 0 then (cellsL E).length else 0) := ⟨hbb, hm⟩
  clear hY hJ hJx hx hd hdA hW bA hF0 hbb hn h0 hm hbig
  refine callsIn_of_wp_marks Tryz.func115 rfl trivial ?_ rfl
  simp only [Tryz.ntmps115, List.size_toArray, List.length_cons, List.length_nil, Nat.reduceAdd, Nat.reduceSub, Array.replicate_succ, Array.replicate_zero, List.push_toArray, List.append_toArray, List.nil_append, List.cons_append]
  have c0l := c0
  rw [hWA] at c0l
  gi_wp2
  rw [← hWA]
  clear hWA c0l
  refine ⟨trivial, (fun _ => by have := HN.out; omega), (callsIn_wide.2 cD).mono ?_⟩
  rintro r w1 ⟨rfl, hb1⟩
  have c1 : w1.cell? ⟨x, 0, none⟩ = some (.pointer (some ⟨q, 0, none⟩)) := (hb1.cell (lt_of_cell c0)).trans c0
  have HA1 : Hid (Below W.heap.size W w1 ∧ w1.heap[W.heap.size]? = some (.cells #[.func (.yield l) #[] #[]] 178 (0, 0)) ∧ DlE w1 B1 B2 (.pointer (some ⟨q, 0, none⟩)) E) := ⟨HA.out.1.trans (hb1.mono HA.out.1.size), heap_below hb1 HA.out.2.1, HD.out.below hb1⟩
  clear cD c0 hb1 HD
  have HDC : Hid (bb = true → docC9 E = cellsL E) := fun h => docC9_yes (by have := HB.out.1; rw [h] at this; simpa using this)
  cases bb with
  | false =>
    have hJ1 : Hid (J [] w1) := HJ.out _ _ _ HA.out.2.2 (Tr7.of_below HA1.out.1)
    have hm0 : Hid (m = 0) := by
      have h1 := HB.out.1
      have h2 := HB.out.2
      rw [if_neg (by simpa using h1)] at h2
      exact h2
    gi_wp2
    exact ⟨_, results_none rfl _ _ _, ⟨_, rfl⟩, .inl ⟨[], by rw [hm0.out]; rfl, hJ1.out⟩⟩
  | true =>
    have bI : Below w1.heap.size w1 (w1.alloc (.cells #[.int .i64 0] 3)) := (Below.refl _ _).alloc (Nat.le_refl _) _
    have hI0 := heap_alloc_new w1 (.cells #[.int .i64 0] 3)
    have c2 : (w1.alloc (.cells #[.int .i64 0] 3)).cell? ⟨x, 0, none⟩ = some (.pointer (some ⟨q, 0, none⟩)) := (bI.cell (lt_of_cell c1)).trans c1
    have cE := each7_call (.pointer (some ⟨q, 0, none⟩)) E (w1.alloc (.cells #[.int .i64 0] 3)) (HA1.out.2.2.d.below bI)
    have HI0 : Hid (Below w1.heap.size w1 (w1.alloc (.cells #[.int .i64 0] 3)) ∧ (w1.alloc (.cells #[.int .i64 0] 3)).heap[w1.heap.size]? = some (.cells #[.int .i64 0] 3 (0, 0))) := ⟨bI, hI0⟩
    clear bI hI0
    gi_wp2
    refine ⟨trivial, (fun _ => by have := HN.out; omega), (callsIn_wide.2 cE).mono ?_⟩
    rintro r w2 ⟨y, rfl, hy, -, hb2⟩
    have hb12 : Below w1.heap.size w1 w2 := HI0.out.1.trans (hb2.mono HI0.out.1.size)
    have hdoc := doc_base9 HA1.out.2.2.g (by simpa using HB.out.1)
    have H2 : Hid (St9 l W.heap.size w1.heap.size J [] w2 ∧ BoxD w2 y B1 B2 E ∧ W.heap.size < w1.heap.size ∧ w1.heap.size < w2.heap.size) := by
      have h1 := (Array.getElem?_eq_some_iff.1 HA1.out.2.1).1
      have h2 := heap_below hb2 HI0.out.2
      exact ⟨⟨HJ.out _ _ _ HA.out.2.2 (Tr7.of_below (HA1.out.1.trans (hb12.mono HA1.out.1.size))), heap_below hb12 HA1.out.2.1, h2⟩, hy, h1, (Array.getElem?_eq_some_iff.1 h2).1⟩
    have HE : Hid ((∀ o ∈ E, opE o = 0) ∧ (∀ o ∈ E, o.A.length ≤ 2097152) ∧ E.length ≤ 4194304 ∧ (∀ o ∈ E, Ins o) ∧ m = (cellsL E).length) := ⟨HA1.out.2.2.g, HA1.out.2.2.n, Nat.le_trans HA1.out.2.2.len (by decide), hdoc, by have h2 := HB.out.2; rwa [if_pos (by simpa using HB.out.1)] at h2⟩
    clear cE hy hb2 hb12 HI0 hdoc c1 c2 HA1 HB HA
    gi_wp2
    refine wpIn_rangeFunc_GA (encs := encZ) rfl (by have := HN.out; omega) (gf := 99) (lb := #[.pointer (some ⟨y, 0, none⟩)]) rfl trivial (enters_of Tryz.func99 (by kernel_rfl) rfl)
      (each7_seq E w2 y B1 B2 H2.out.2.1 HE.out.1 HE.out.2.1 HE.out.2.2.1 (n - 1) (by have := HN.out; omega)).nine (Below.refl _ _) (fun _ => rfl) (fun pre x A A' h k => h.bk k.seven) (fun pre x A A' B B' k1 h k2 => KZ.bk k1.seven h k2.seven)
      (fun pre A => ∃ xs : List EZ, xs.length = (cellsL (E.take pre.length)).length ∧ St9 l W.heap.size w1.heap.size J xs A ∧ w2.heap.size ≤ A.heap.size ∧ ∀ y ∈ xs, y.2.2.2 ≤ A.heap.size) (fun c pre A => c = .ret ∧ ∃ ys, Jx ys A)
      (fun s A A' ⟨xs, e, h, hz, ha⟩ k => ⟨xs, e, h.tr HJ.out k (by have := H2.out; omega) (by have := H2.out; omega), Nat.le_trans hz k.size, fun y hy => Nat.le_trans (ha y hy) k.size⟩) (fun c s A A' ⟨e, ys, h⟩ k => ⟨e, ys, HX.out _ _ _ h (k.mono (fun _ h => h.elim) (by have := H2.out; omega))⟩) ⟨[], rfl, H2.out.1, Nat.le_refl _, fun y hy => by cases hy⟩ (fun (_ : List PZ) (x1 : PZ) (a' : Act) (_ : World) => a' = { tmps := #[.func (.yield l) #[] #[], .pointer (some ⟨x, 0, none⟩), .pointer (some ⟨W.heap.size, 0, none⟩), .pointer (some ⟨w1.heap.size, 0, none⟩), x1.1, undef, .pointer (some ⟨q, 0, none⟩), .bool true, .bool false, .pointer (some ⟨q, 0, none⟩), .func (.func 99) #[] #[.pointer (some ⟨y, 0, none⟩)], x1.1, undef, undef, undef, undef, undef, undef, undef, undef, undef, undef], defers := [] }) (fun _ _ _ _ _ h _ => h) ?assign ?body ?done ?stop
    case assign =>
      intro l1 pre x1 W1 K _ _ hK
      gi_wp2
      exact hK _ _ (Below.refl _ _) rfl
    case body =>
      intro l1 pre x1 a' W1 hl1 hrec hI hG hax
      subst hax
      obtain ⟨e, s, he, hx1, hin, hlo, hhi⟩ := hG
      obtain ⟨x1v, xlo, xhi⟩ := x1
      simp only at hx1 hin hlo hhi
      subst hx1
      obtain ⟨u, yy, hux⟩ := pieceQ_if e s
      obtain ⟨r1, hr1⟩ := hrec
      have hem := List.mem_of_getElem? he
      have cC := cellsOf_call u yy W1
      obtain ⟨xs0, hxs0, hst0, hzz, has0⟩ := hI
      have HP : Hid (E[pre.length]? = some e ∧ e ∈ E ∧ w2.heap.size ≤ W1.heap.size) := ⟨he, hem, hzz⟩
      have HAS : Hid (∀ y ∈ xs0, y.2.2.2 ≤ W1.heap.size) := has0
      have HW1 : Hid (W1.heap[l1]? = some (.loop r1) ∧ InA W1 xlo xhi s e.A ∧ xhi ≤ W1.heap.size) := ⟨hr1, hin, hhi⟩
      have HST : Hid (xs0.length = (cellsL (E.take pre.length)).length ∧ St9 l W.heap.size w1.heap.size J xs0 W1) := ⟨hxs0, hst0⟩
      have HU : Hid (pieceQ e s = .iface u yy) := hux
      clear he hem hin hhi hlo hr1 hux hxs0 hst0 hl1 hzz has0
      rw [HU.out]
      gi_wp2
      refine ⟨trivial, (fun _ => by have := HN.out; omega), (CallsIn.inRound l1 (callsIn_wide.2 cC)).mono ?_⟩
      rintro r w3 ⟨rfl, hc3, hb3⟩
      clear cC
      gi_wp2
      refine wpIn_rangeFunc_GN (encs := encC9) (l₀ := l1) (r₀ := r1) rfl (heap_below hb3 HW1.out.1) (by have := HN.out; omega) (gf := 133) (lb := #[.pointer (some ⟨W1.heap.size, 0, none⟩)]) rfl trivial (enters_of Tryz.func133 (by kernel_rfl) rfl)
        (SeqG9.inRound l1 (one9_seq e s w3 W1.heap.size xlo xhi (HE.out.2.2.2.1 e HP.out.2.1) (by rw [HU.out]; exact hc3) (HW1.out.2.1.below hb3) (Nat.le_trans HW1.out.2.2 hb3.size) (HE.out.2.1 e HP.out.2.1) (n - 1 - 1 - 1) (by have := HN.out; omega))) (Below.refl _ _) (fun _ => rfl) (fun pre x A A' h k => h.bk k) (fun pre x A A' B B' k1 h k2 => KC9.bk k1 h k2)
        (fun (qs : List CZ) A => ∃ xs : List EZ, xs.length = (cellsL (E.take pre.length)).length + qs.length ∧ St9 l W.heap.size w1.heap.size J xs A ∧ KZ pre (pieceQ e s, xlo, xhi) W1 A ∧ KeepsFrom w2.heap.size W1 A ∧ (∀ y ∈ xs, y.2.2.2 ≤ w3.heap.size ∨ ∃ q ∈ qs, y.2.2.2 = q.2.2) ∧ ∀ y ∈ xs, y.2.2.2 ≤ A.heap.size) (fun c (_ : List CZ) A => c = .ret ∧ (∃ ys, Jx ys A) ∧ KeepsFrom w2.heap.size W1 A)
        ?hI2 ?hIx2 ?h02 (fun (_ : List CZ) (z : CZ) (a' : Act) (A : World) => ∃ b, a' = { tmps := #[.func (.yield l) #[] #[], .pointer (some ⟨x, 0, none⟩), .pointer (some ⟨W.heap.size, 0, none⟩), .pointer (some ⟨w1.heap.size, 0, none⟩), .iface u yy, .pointer (some ⟨b, 0, none⟩), .pointer (some ⟨q, 0, none⟩), .bool true, .bool false, .pointer (some ⟨q, 0, none⟩), .func (.func 99) #[] #[.pointer (some ⟨y, 0, none⟩)], .iface u yy, .iface u yy, .func (.func 133) #[] #[.pointer (some ⟨W1.heap.size, 0, none⟩)], ceV z.1, undef, undef, undef, undef, undef, undef, undef], defers := [] } ∧ A.heap[b]? = some (.cells (ceC z.1) 84 (0, 0))) (fun _ _ _ _ _ ⟨b, h1, h2⟩ k => ⟨b, h1, k.cells h2⟩) ?assign2 ?body2 ?done2 ?stop2
      case hI2 =>
        rintro qs A A' ⟨xs, h1, h2, h3, h4, h5, h6⟩ k
        have hs := hb3.size
        exact ⟨xs, h1, h2.tr HJ.out k (by have := H2.out; have := HP.out; omega) (by have := H2.out; have := HP.out; omega), h3.step9 k.size (fun b cs hb => k.kept _ _ hb (.inr ⟨_, _, _, rfl, fun h => h⟩)) (fun b cs _ hb => k.kept _ _ hb (.inr ⟨_, _, _, rfl, fun h => h⟩)), ⟨Nat.le_trans h4.size k.size, fun b o hB ho hc => k.kept _ _ (h4.same b o hB ho hc) (.inl (by have := (Array.getElem?_eq_some_iff.1 ho).1; omega))⟩, h5, fun y hy => Nat.le_trans (h6 y hy) k.size⟩
      case hIx2 =>
        rintro c qs A A' ⟨h1, ⟨ys, h2⟩, h4⟩ k
        have hs := hb3.size
        exact ⟨h1, ⟨ys, HX.out _ _ _ h2 (k.mono (fun _ h => h.elim) (by have := H2.out; have := HP.out; omega))⟩, ⟨Nat.le_trans h4.size k.size, fun b o hB ho hc => k.kept _ _ (h4.same b o hB ho hc) (.inl (by have := (Array.getElem?_eq_some_iff.1 ho).1; omega))⟩⟩
      case h02 =>
        exact ⟨xs0, HST.out.1, ⟨HJ.out _ _ _ HST.out.2.j (Tr7.of_below hb3), heap_below hb3 HST.out.2.f, heap_below hb3 HST.out.2.i⟩, ⟨hb3.size, fun k cs hk => heap_below hb3 hk, fun k cs hk _ => heap_below hb3 hk⟩, ⟨hb3.size, fun k o _ ho _ => heap_below hb3 ho⟩, fun y hy => .inl (Nat.le_trans (HAS.out y hy) hb3.size), fun y hy => Nat.le_trans (HAS.out y hy) hb3.size⟩
      case assign2 =>
        intro l2 qs z W4 K _ _ hK
        obtain ⟨⟨zk, zt, ⟨z1, z2, z3⟩, zp, zl, zc⟩, zlo, zhi⟩ := z
        simp only [encC9, ceV, slV]
        gi_wp2
        exact hK _ _ ((Below.refl _ _).alloc (Nat.le_refl _) _) ⟨W4.heap.size, rfl, heap_alloc_new W4 _⟩
      case body2 =>
        rintro l2 qs z a' W4 hl2 hrec2 ⟨xs, hxs, hst, hkz, hkf, has1, has2⟩ hG2 ⟨b, rfl, hb⟩
        obtain ⟨c, hc, g1, g2, g3, g4, g5, g6, g7⟩ := hG2
        have hat := cells_at9 HP.out.1 hc
        rw [← hxs] at hat
        have hlt := (List.getElem?_eq_some_iff.1 hat).1
        have hs3 := hb3.size
        have hYk := HY.out xs (xs.length, z) W4 hst.j ⟨rfl, c, by rw [HDC.out (by first | trivial | rfl)]; exact hat, g1, g2, g3, g4, by have := H2.out; have := HP.out; have := HN.out; show w0.heap.size ≤ z.2.1; omega, g6, fun y hy => by
          rcases has1 y hy with h | ⟨q, hq, h⟩
          · exact Nat.le_trans h g5
          · show y.2.2.2 ≤ z.2.1
            rw [h]; exact g7 q hq⟩
        have H4 : Hid (xs.length = (cellsL (E.take pre.length)).length + qs.length ∧ St9 l W.heap.size w1.heap.size J xs W4 ∧ KZ pre (pieceQ e s, xlo, xhi) W1 W4 ∧ KeepsFrom w2.heap.size W1 W4 ∧ w3.heap.size ≤ z.2.1) := ⟨hxs, hst, hkz, hkf, g5⟩
        have HA4 : Hid ((∀ y ∈ xs, y.2.2.2 ≤ w3.heap.size ∨ ∃ q ∈ qs, y.2.2.2 = q.2.2) ∧ (∀ y ∈ xs, y.2.2.2 ≤ W4.heap.size) ∧ z.2.2 ≤ W4.heap.size) := ⟨has1, has2, g6⟩
        obtain ⟨⟨zk, zt, ⟨z1, z2, z3⟩, zp, zl, zc⟩, zlo, zhi⟩ := z
        obtain ⟨N, hN⟩ : ∃ N, xs.length = N := ⟨_, rfl⟩
        have HNN : Hid (xs.length = N) := hN
        have cf : W4.cell? ⟨W.heap.size, 0, none⟩ = some (.func (.yield l) #[] #[]) := by rw [cell_of_heap hst.f]; rfl
        have ci : W4.cell? ⟨w1.heap.size, 0, none⟩ = some (.int .i64 N) := by rw [cell_of_heap hst.i, hN]; rfl
        have b0 : W4.cell? ⟨b, 0, none⟩ = some (.int .i32 zk) := by rw [cell_of_heap hb]; rfl
        have b1 : W4.cell? ⟨b, 1, none⟩ = some (.string zt) := by rw [cell_of_heap hb]; rfl
        have b2 : W4.cell? ⟨b, 2, none⟩ = some (.int .i64 z1) := by rw [cell_of_heap hb]; rfl
        have b3' : W4.cell? ⟨b, 3, none⟩ = some (.int .i64 z2) := by rw [cell_of_heap hb]; rfl
        have b4 : W4.cell? ⟨b, 4, none⟩ = some (.string z3) := by rw [cell_of_heap hb]; rfl
        have b5 : W4.cell? ⟨b, 5, none⟩ = some (.slice zp zl zc) := by rw [cell_of_heap hb]; rfl
        have hNb : N + 1 ≤ 1099511627776 := by have := HG.out; omega
        simp only [encE9, ceV, slV, hN] at hYk
        obtain ⟨fn, tm, asg, bo, hy, hR⟩ := hYk
        have hR' := roundIn_any9 (m := n - 1 - 1 - 1 - 1 - 1) (l1 := l1) (l2 := l2) hR
        clear hR hat hc g1 g2 g3 g4 g5 g6 g7 hst hkz hkf hxs hlt hb hN hl2 has1 has2
        simp only [ceV, slV]
        gi_wp2
        refine ⟨(fun _ => by have := HN.out; omega), hR'.mono ?_⟩
        rintro e' W6 (⟨rfl, hj6, hk6, hn6⟩ | ⟨rfl, hj6, hn6⟩)
        · have hi6 := hk6.own _ _ _ H4.out.2.1.i (.inr (.inr (.inr ⟨by have := H2.out; have := HN.out; omega, by decide, by decide⟩)))
          have hf6 := hk6.own _ _ _ H4.out.2.1.f (.inr (.inr (.inr ⟨HN.out.2, by decide, by decide⟩)))
          rw [HNN.out] at hi6
          have c6 : W6.cell? ⟨w1.heap.size, 0, none⟩ = some (.int .i64 N) := by rw [cell_of_heap hi6]; rfl
          have f6 : W6.frozen? ⟨w1.heap.size, 0, none⟩ = false := frozen_of_heap hi6 0
          have hw : IntKind.i64.wrap ((N : Int) + 1) = N + 1 := by rw [IntKind.wrap_i64]; omega
          have H6 : Hid (J (xs ++ [(N, ((zk, zt, (z1, z2, z3), zp, zl, zc), zlo, zhi))]) W6 ∧ KE9 w0.heap.size xs (N, ((zk, zt, (z1, z2, z3), zp, zl, zc), zlo, zhi)) W4 W6 ∧ NcK W.heap.size W4 W6 ∧ W6.heap[w1.heap.size]? = some (.cells #[.int .i64 N] 3 (0, 0)) ∧ W6.heap[W.heap.size]? = some (.cells #[.func (.yield l) #[] #[]] 178 (0, 0))) := ⟨hj6, hk6, hn6, hi6, hf6⟩
          clear hj6 hk6 hn6 hi6 hf6 cf ci b0 b1 b2 b3' b4 b5 hy hR'
          gi_wp2
          obtain ⟨q1, q2, q3, q4, q5⟩ := H6.out
          obtain ⟨r1', r2, r3, r4, r5⟩ := H4.out
          have hz := H2.out
          have hz1 := HP.out.2.2
          have hoth : ∀ (k : Nat) (o : Obj), W6.heap[k]? = some o → k ≠ w1.heap.size → (W6.setCell ⟨w1.heap.size, 0, none⟩ (.int .i64 (N + 1))).heap[k]? = some o := fun k o hk hne => (Below.heap_setCell _ _ _ _ hne).trans hk
          have hne : ∀ (k : Nat) (o : Obj), W6.heap[k]? = some o → (∀ cs, o ≠ .cells cs 3 (0, 0)) → k ≠ w1.heap.size := fun k o hk ho e => by subst e; rw [q4] at hk; exact ho _ (Option.some.inj hk).symm
          have hsz : W6.heap.size ≤ (W6.setCell ⟨w1.heap.size, 0, none⟩ (.int .i64 (N + 1))).heap.size := by simp
          have h7 : (W6.setCell ⟨w1.heap.size, 0, none⟩ (.int .i64 (N + 1))).heap[w1.heap.size]? = some (.cells #[.int .i64 (N + 1)] 3 (0, 0)) := by
            have := heap_set_at W6 w1.heap.size 0 (.int .i64 (N + 1)) _ _ _ q4
            simpa using this
          refine ⟨⟨Nat.le_trans q3.1 hsz, fun k o hk ho hc => hoth k o (q3.2 k o (by omega) ho hc) (by omega)⟩, ⟨Nat.le_trans q2.size hsz, fun k cs t hk ht => ?_, fun k t p hk => hoth k _ (q2.ite k t p hk) (hne k _ (q2.ite k t p hk) (fun cs e => by cases e)), fun k cs hk ho => hoth k _ (q2.att k cs hk ho) (hne k _ (q2.att k cs hk ho) (fun cs e => by cases e))⟩, xs ++ [(N, ((zk, zt, (z1, z2, z3), zp, zl, zc), zlo, zhi))], ?_, ⟨HJ.out _ _ _ q1 (tr7_set9 (T := fun t => t = 3) (B := W.heap.size) q4 (by omega) rfl 0 _), hoth _ _ q5 (by omega), ?_⟩, ?_, ⟨Nat.le_trans r4.size (Nat.le_trans q3.1 hsz), fun k o hk ho hc => hoth k o (q3.2 k o (by omega) (r4.same k o hk ho hc) hc) (by omega)⟩, fun y hy => ?_, fun y hy => ?_⟩
          · have h8 := q2.own k cs t hk (ht.elim .inl fun h => .inr (.inl h))
            exact hoth k _ h8 (hne k _ h8 (fun cs' e => by rcases ht with rfl | rfl <;> cases e))
          · rw [List.length_append, List.length_append, r1']; rfl
          · rw [h7, List.length_append, HNN.out]; rfl
          · exact r3.step9 (Nat.le_trans q2.size hsz) (fun k cs hk => hoth k _ (q2.own k cs _ hk (.inr (.inr (.inl rfl)))) (hne k _ (q2.own k cs _ hk (.inr (.inr (.inl rfl)))) (fun cs' e => by cases e))) (fun k cs hlt hk => by
              have h8 := q2.att k cs hk (.inl (by show k < zlo; have : w3.heap.size ≤ zlo := r5; omega))
              exact hoth k _ h8 (hne k _ h8 (fun cs' e => by cases e)))
          · rcases List.mem_append.1 hy with hy | hy
            · rcases HA4.out.1 y hy with h | ⟨q, hq, h⟩
              · exact .inl h
              · exact .inr ⟨q, List.mem_append_left _ hq, h⟩
            · exact .inr ⟨_, List.mem_append_right _ (List.mem_singleton.2 rfl), by rw [List.mem_singleton.1 hy]⟩
          · rcases List.mem_append.1 hy with hy | hy
            · exact Nat.le_trans (HA4.out.2.1 y hy) (Nat.le_trans q3.1 hsz)
            · rw [List.mem_singleton.1 hy]; exact Nat.le_trans HA4.out.2.2 (Nat.le_trans q3.1 hsz)
        · have H6 : Hid ((∃ ys, Jx ys W6) ∧ NcK W.heap.size W4 W6) := ⟨⟨_, hj6⟩, hn6⟩
          clear hj6 hn6 cf ci b0 b1 b2 b3' b4 b5 hy hR'
          gi_wp2
          obtain ⟨q1, q3⟩ := H6.out
          obtain ⟨r1', r2, r3, r4, r5⟩ := H4.out
          have hz := H2.out
          have hz1 := HP.out.2.2
          exact ⟨⟨q3.1, fun k o hk ho hc => q3.2 k o (by omega) ho hc⟩, rfl, q1, ⟨Nat.le_trans r4.size q3.1, fun k o hk ho hc => q3.2 k o (by omega) (r4.same k o hk ho hc) hc⟩⟩
      case done2 =>
        rintro qs A hS ⟨xs, h1, h2, h3, h4, h5, h6⟩
        have hln : (cellsL (E.take (pre ++ [((pieceQ e s, xlo, xhi) : PZ)]).length)).length = xs.length := by
          rw [List.length_append, List.length_singleton, List.take_add_one, HP.out.1]
          unfold cellsL
          rw [List.flatMap_append, List.length_append, h1, hS]
          simp [cellsL]
        gi_wp2
        have hsz : w2.heap.size ≤ A.heap.size := Nat.le_trans HP.out.2.2 h4.size
        rw [HU.out] at h3 hln
        exact ⟨h4, h3, xs, hln.symm, h2, hsz, h6⟩
      case stop2 =>
        rintro c qs A ⟨rfl, h2, h4⟩
        gi_wp2
        exact ⟨h4, rfl, h2⟩
    case done =>
      rintro D xs A hD hS ⟨ys, hys, hst, -, -⟩ hK
      have hfin : Hid (ys.length = m) := by
        show ys.length = m
        rw [hys, hS, List.take_length]; exact HE.out.2.2.2.2.symm
      gi_wp2
      exact eachC_leave D A _ hK ⟨ys, hfin.out, HJ.out _ _ _ hst.j (tr7_put9 hK (by have := H2.out; omega))⟩
    case stop =>
      rintro D c pre A hD ⟨rfl, ys, hj⟩ hK
      gi_wp2
      exact eachC_leaveX D A _ hK ⟨ys, HX.out _ _ _ hj (tr7_put9 hK (by have := H2.out; omega))⟩
end Go.Proofs.YthfpmhnnjjikcaaGreatDoor

/- cells.List of a document. -/
namespace Go.Proofs.YthfpmhnnjjikcaaGreatDoor
open Go Go.RowKit Go.Lib Go.Shelf
set_option linter.unusedVariables false
attribute [local go_sem] Oper.semAt_some

theorem wpListIn_append_cells {F : Fence} {n : Nat} {w : World} {ops : Array Oper} {rest : List Oper} {o : Oper} {a : Act} {Q : Exit → Act → World → Prop} (hgd : o.guard = none) (s x : Operand)
    (ho : o.op = .call { callee := .builtin .append, args := #[s, x], argTypes := #[74, 74] })
    (base : Nat) (v : Value) (L : List CV) (hs : a.eval s = v) (hown : OwnC w base v L)
    (b : Nat) (d : CV) (hx : a.eval x = .slice (some ⟨b, 0, none⟩) 1 1) (hM : w.heap[b]? = some (.cells (ceC d) 84 (0, 0)))
    (h63 : L.length + 1 ≤ 33554432) (hbase : base ≤ w.heap.size)
    (h : ∀ v' w', OwnC w' base v' (L ++ [d]) → w.grownBy w' v.ownBlock → wpListIn F n Tryz.prog ops Q rest (a.put o.dst v') w') : wpListIn F n Tryz.prog ops Q (o :: rest) a w := by
  obtain ⟨i, z, hi, hz, hz1, hz2, hz3⟩ := infoCe
  refine wpListIn_append_own _ hgd s x _ ho base 84 i z 6 80 Tryz.underlying74 hi hz hz1 hz2 hz3 (by decide) v L.length (cellsC L) hs hown ⟨b, 0, none⟩ 1 1 (cellsC [d]) hx (by rw [cellsC_len]; rfl) (fun j y hj => ?_) (cellsC_one _) (by unfold maxLen; omega) (by omega) hbase (fun v' w' h1 h2 _ => ?_)
  · rw [Addr.add_lit, Nat.zero_add, cell_of_heap hM, List.getElem?_toArray]
    exact hj
  · refine h v' w' ?_ h2
    show w'.ownsRow _ _ _ _ _ _
    rw [cellsC_append, List.length_append]
    exact h1
/-- The cells' own lists lie in blocks of their own, one behind the other. -/
def Asc9 (D : List CV) : Prop := D.Pairwise fun d d' => ∀ k k', (slV d.2.2.2).ownBlock = some k → (slV d'.2.2.2).ownBlock = some k' → k < k'
/-- What List has so far. -/
structure Li9 (E : List Op5) (w : World) (O : Nat) (pre : List EZ) (lv : Value) (D : List CV) (A : World) : Prop where
  box : A.heap[O]? = some (.cells #[lv] 74 (0, 0))
  len : D.length = pre.length
  own : OwnC A w.heap.size lv D
  are : AreO A w.heap.size D ((cellsL E).take pre.length)
  below : Below w.heap.size w A
  asc : Asc9 D
  mks : ∀ d ∈ D, ∀ k, (slV d.2.2.2).ownBlock = some k → ∃ y ∈ pre, k < y.2.2.2
theorem Li9.tr {E : List Op5} {w : World} {O B : Nat} {pre : List EZ} {lv : Value} {D : List CV} {A A' : World} (h : Li9 E w O pre lv D A) (k : Tr7 (fun t => t = 3) B A A') (hO : O < B) (hw : w.heap.size ≤ B) : Li9 E w O pre lv D A' :=
  ⟨k.kept _ _ h.box (.inl hO), h.len, owns_same h.own fun j hj => (by
    obtain ⟨_, cur, hc⟩ := owns_block h.own j hj
    exact (k.kept _ _ hc (.inr ⟨_, _, _, rfl, by decide⟩)).trans hc.symm), h.are.keep (fun j cur hj => (k.kept _ _ hj (.inr ⟨_, _, _, rfl, by decide⟩)).trans hj.symm), tr_below8 h.below (Nat.le_refl _) hw k, h.asc, h.mks⟩
theorem list_leave (A : World) (D : Nat) (tmps : Array Value) (lv : Value) {R : Value → World → Prop} (h2 : tmps[2]? = some lv) (h3 : tmps[3]? = some .nilIface) (hK : A.heap[D]? = some (.deferred (some []))) (h : R lv (A.putObj D (.deferred none))) :
    bodyPostM Fence.wide 15 Tryz.prog Tryz.f34 (fun r w' => ∃ lv, r = .returned (.tuple #[lv, .nilIface]) ∧ R lv w') Exit.ret { tmps := tmps, defers := [{ target := .collected D, args := #[] }] } A := by
  refine ⟨by simp, .inl ⟨_, _, rfl, run_takeDeferred hK, ?_⟩⟩
  refine ⟨.tuple #[lv, .nilIface], ?_, ⟨lv, rfl, h⟩⟩
  simp [results, Tryz.results34, go_sem, h2, h3]
theorem list_keep {E : List Op5} {w A A' : World} {O : Nat} {pre : List EZ} {lv : Value} {L : List CV} {d : CV} (h : Li9 E w O pre lv L A) (g : (A.alloc (.cells (ceC d) 84)).grownBy A' lv.ownBlock) (k : Nat) (o : Obj) (hk : A.heap[k]? = some o) (hn : ∀ cs, o ≠ .cells cs 84 (0, 0)) : A'.heap[k]? = some o := by
  have hlt := (Array.getElem?_eq_some_iff.1 hk).1
  refine (g.block k (by rw [World.size_alloc]; omega) fun e => ?_).trans ((Below.heap_alloc _ _ _ hlt).trans hk)
  obtain ⟨_, cur, hc⟩ := owns_block h.own k e.symm
  rw [hk] at hc
  exact hn cur (Option.some.inj hc)
theorem list_box {E : List Op5} {w A A' : World} {O : Nat} {pre : List EZ} {lv : Value} {L : List CV} {d : CV} (h : Li9 E w O pre lv L A) (g : (A.alloc (.cells (ceC d) 84)).grownBy A' lv.ownBlock) : A'.heap[O]? = some (.cells #[lv] 74 (0, 0)) :=
  list_keep h g O _ h.box (fun cs e => by cases e)
theorem list_round {E : List Op5} {w A A' : World} {O W4 zi zlo zhi : Nat} {pre : List EZ} {lv v' : Value} {L : List CV} {zk : Int} {zt : ByteArray} {zz : P3} {zp : Option Addr} {zl zc : Nat} {e : C5} (h : Li9 E w O pre lv L A) (he : (cellsL E)[pre.length]? = some e) (hz : zk = e.1 ∧ zt = e.2.1 ∧ zz = e.2.2.1) (hin : InA A zlo zhi (.slice zp zl zc) e.2.2.2) (hlo : W4 ≤ zlo) (has : ∀ y ∈ pre, y.2.2.2 ≤ zlo) (own : OwnC A' w.heap.size v' (L ++ [(zk, zt, zz, zp, zl, zc)])) (g : (A.alloc (.cells (ceC (zk, zt, zz, zp, zl, zc)) 84)).grownBy A' lv.ownBlock) (hbx : A'.heap[O]? = some (.cells #[lv] 74 (0, 0))) (hO : O < W4 ∧ w.heap.size ≤ O) :
    KeepsFrom W4 A (A'.setCell ⟨O, 0, none⟩ v') ∧ KE9 W4 pre (zi, ((zk, zt, zz, zp, zl, zc), zlo, zhi)) A (A'.setCell ⟨O, 0, none⟩ v') ∧ ∃ lv D, Li9 E w O (pre ++ [(zi, ((zk, zt, zz, zp, zl, zc), zlo, zhi))]) lv D (A'.setCell ⟨O, 0, none⟩ v') := by
  have key : ∀ (k : Nat) (o : Obj), A.heap[k]? = some o → (∀ cs, o ≠ .cells cs 84 (0, 0)) → k ≠ O → (A'.setCell ⟨O, 0, none⟩ v').heap[k]? = some o := fun k o hk hn hne => (Below.heap_setCell _ _ _ _ hne).trans (list_keep h g k o hk hn)
  have hnO : ∀ (k : Nat) (o : Obj), A.heap[k]? = some o → (∀ cs, o ≠ .cells cs 74 (0, 0)) → k ≠ O := fun k o hk hn e => by subst e; rw [h.box] at hk; exact hn _ (Option.some.inj hk).symm
  have hsz : A.heap.size ≤ (A'.setCell ⟨O, 0, none⟩ v').heap.size := by have := g.size; rw [World.size_alloc] at this; simp; omega
  have hka : KeepA A (A'.setCell ⟨O, 0, none⟩ v') := fun k cur hk => (key k _ hk (fun cs e => by cases e) (hnO k _ hk (fun cs e => by cases e))).trans hk.symm
  refine ⟨⟨hsz, fun k o _ hk hc => key k o hk (fun cs e => by rw [e] at hc; cases hc) (hnO k o hk (fun cs e => by rw [e] at hc; cases hc))⟩, ⟨hsz, fun k cs t hk ht => ?_, fun k t p hk => key k _ hk (fun cs e => by cases e) (hnO k _ hk (fun cs e => by cases e)), fun k cs hk _ => key k _ hk (fun cs e => by cases e) (hnO k _ hk (fun cs e => by cases e))⟩, v', L ++ [(zk, zt, zz, zp, zl, zc)], ?_, ?_, ?_, ?_, ?_, ?_, ?_⟩
  · rcases ht with rfl | rfl | rfl | ⟨h1, h2, h3⟩
    · exact key k _ hk (fun cs e => by cases e) (hnO k _ hk (fun cs e => by cases e))
    · exact key k _ hk (fun cs e => by cases e) (hnO k _ hk (fun cs e => by cases e))
    · exact key k _ hk (fun cs e => by cases e) (hnO k _ hk (fun cs e => by cases e))
    · exact key k _ hk (fun cs e => by cases e; exact h2 rfl) (by omega)
  · have := heap_set_at A' O 0 v' _ _ _ hbx
    simpa using this
  · rw [List.length_append, List.length_append, h.len]; rfl
  · refine owns_same own fun k hk => Below.heap_setCell _ _ _ _ fun e => ?_
    obtain ⟨_, cur, hc⟩ := owns_block own k hk
    rw [show k = O from e, hbx] at hc
    cases hc
  · rw [List.length_append, List.length_singleton, List.take_add_one, he]
    exact forall2_append (h.are.keep hka) (.cons ⟨hz.1, hz.2.1, hz.2.2, keepA_own (own_weaken hin.own (by omega)) hka⟩ .nil)
  · have h1 : Below w.heap.size w (A.alloc (.cells (ceC (zk, zt, zz, zp, zl, zc)) 84)) := h.below.alloc h.below.size _
    exact (h1.grown g h1.size (fun k hk => (owns_block h.own k hk).1)).setCell (p := ⟨O, 0, none⟩) hO.2 _
  · refine List.pairwise_append.2 ⟨h.asc, List.pairwise_singleton _ _, fun d hd d' hd' k k' hk hk' => ?_⟩
    rw [List.mem_singleton.1 hd'] at hk'
    obtain ⟨y, hy, hlt⟩ := h.mks d hd k hk
    have h1 := has y hy
    have h2 := (owns_block hin.own k' hk').1
    omega
  · intro d hd k hk
    rcases List.mem_append.1 hd with hd | hd
    · obtain ⟨y, hy, hlt⟩ := h.mks d hd k hk
      exact ⟨y, List.mem_append_left _ hy, hlt⟩
    · rw [List.mem_singleton.1 hd] at hk
      exact ⟨_, List.mem_append_right _ (List.mem_singleton.2 rfl), hin.top k hk⟩
set_option maxHeartbeats 8000000 in
set_option maxRecDepth 100000 in
theorem list9_asc {B1 B2 : Nat} (v : Value) (E : List Op5) (w : World) (h : DlE w B1 B2 v E) (h0 : sumB E = 0) (hc : sumR E ≤ 2097152) (hl : (cellsL E).length ≤ 2097152) :
    Calls Tryz.prog 34 #[v] w fun r w' => ∃ lv, r = .returned (.tuple #[lv, .nilIface]) ∧ (∃ D, OwnC w' w.heap.size lv D ∧ AreO w' w.heap.size D (cellsL E) ∧ Asc9 D) ∧ Below w.heap.size w w' := by
  have cD := doc8_any v E w h
  rw [show (sumB E == 0) = true by rw [h0]; rfl] at cD
  obtain ⟨N, hN⟩ : ∃ N : Nat, sumR E = N := ⟨(sumR E).toNat, by have := h.sums; omega⟩
  have cR : Hid (∀ W, Below w.heap.size w W → Calls Tryz.prog 37 #[v] W fun e w' => e = .returned (.int .i64 N) ∧ Below W.heap.size W w') := fun W hW => by rw [← hN]; exact result8_any v E W (h.below hW)
  have cE : Hid (∀ W, Below w.heap.size w W → Calls Tryz.prog 84 #[v] W fun r w' => ∃ x, r = .returned (.func (.func 115) #[] #[.pointer (some ⟨x, 0, none⟩)]) ∧ (∃ u, w'.cell? ⟨x, 0, none⟩ = some u ∧ DlE w' B1 B2 u E) ∧ Below W.heap.size W w') := fun W hW => by
    refine (eachC_call v E W (h.d.below hW)).mono ?_
    rintro r w' ⟨x, e, ⟨u, h1, h2⟩, _, h3⟩
    exact ⟨x, e, ⟨u, h1, ⟨h2, h.g, h.fit, h.len, h.txt, h.fits⟩⟩, h3⟩
  have HB : Hid (sumB E = 0 ∧ N ≤ 2097152 ∧ (cellsL E).length ≤ 2097152) := ⟨h0, by omega, hl⟩
  obtain ⟨q, rfl⟩ : ∃ q, v = .pointer (some ⟨q, 0, none⟩) := by obtain ⟨q, _, _, e, _⟩ := h.d; exact ⟨q, e⟩
  obtain ⟨i0, z0', hi, hz, hz1, hz2, hz3⟩ := infoCe
  have hZ : Hid (i0.zero = some z0' ∧ i0.size = 6 ∧ i0.bytes = 80 ∧ z0'.cells.size = 6) := ⟨hz, hz1, hz2, hz3⟩
  have hN2 : N ≤ 2097152 := HB.out.2.1
  clear h h0 hc hl hN hz hz1 hz2 hz3
  refine (callsIn_wide (n := 15)).1 ?_
  refine callsIn_of_wp_marks Tryz.func34 rfl trivial ?_ rfl
  simp only [Tryz.ntmps34, List.size_toArray, List.length_cons, List.length_nil, Nat.reduceAdd, Nat.reduceSub, Array.replicate_succ, Array.replicate_zero, List.push_toArray, List.append_toArray, List.nil_append, List.cons_append]
  rw [wpIn_wide]
  go_wp2_with fail
  refine cD.mono ?_; rintro r w1 ⟨rfl, hb1⟩
  have c2 := cR.out w1 hb1
  clear cD cR
  go_wp2_with fail
  refine c2.mono ?_; rintro r w2 ⟨rfl, hb2'⟩
  have hb2 := hb1.trans (hb2'.mono hb1.size)
  have hs2 := hb2.size
  clear c2 hb1 hb2'
  go_wp2_with (at_make; refine wpList_make_own _ rfl _ _ 74 rfl w.heap.size 84 i0 z0' 6 Tryz.underlying74 hi hZ.out.1 hZ.out.2.1 .i64 .i64 _ N rfl rfl rfl (by rw [hZ.out.2.2.1]; omega) (by unfold maxLen; omega) hs2 ?_; intro w3 hown hgr; have hb3 : Below w.heap.size w w3 := (hb2.grown hgr hb2.size (fun k hk => by cases hk)))
  have bO : Below w3.heap.size w3 (w3.alloc (.cells #[.slice (some ⟨w2.heap.size, 0, none⟩) 0 N] 74)) := (Below.refl _ _).alloc (Nat.le_refl _) _
  have hO := heap_alloc_new w3 (.cells #[.slice (some ⟨w2.heap.size, 0, none⟩) 0 N] 74)
  have hbO := hb3.trans (bO.mono hb3.size)
  have c3 := cE.out _ hbO
  have hown' : OwnC w3 w.heap.size (.slice (some ⟨w2.heap.size, 0, none⟩) 0 N) [] := hown
  refine c3.mono ?_; rintro r w4 ⟨x, rfl, hx, hb4⟩
  have H4 : Hid (Li9 E w w3.heap.size [] (.slice (some ⟨w2.heap.size, 0, none⟩) 0 N) [] w4 ∧ (∃ u, w4.cell? ⟨x, 0, none⟩ = some u ∧ DlE w4 B1 B2 u E) ∧ w3.heap.size < w4.heap.size ∧ w.heap.size ≤ w3.heap.size) := by
    have h1 := heap_below hb4 hO
    exact ⟨⟨h1, rfl, owns_below (owns_below hown' bO) hb4, by rw [List.length_nil, List.take_zero]; exact .nil, hbO.trans (hb4.mono hbO.size), List.Pairwise.nil, fun d hd => by cases hd⟩, hx, (Array.getElem?_eq_some_iff.1 h1).1, hb3.size⟩
  clear c3 cE hx hb4 hO bO hbO hown hown' hgr hb3 hb2 hs2 hi hZ
  go_wp2_with fail
  refine (wpIn_wide (n := 15)).1 ?_
  refine wpIn_rangeFunc_GA (encs := encE9) rfl (by decide) (gf := 115) (lb := #[.pointer (some ⟨x, 0, none⟩)]) rfl trivial (enters_of Tryz.func115 (by kernel_rfl) rfl)
    (eachC_seq E w4 x H4.out.2.1 (cellsL E).length (Nat.le_trans HB.out.2.2 (by decide)) (by rw [if_pos HB.out.1]) 14 (by decide)) (Below.refl _ _) (fun _ => rfl) (fun pre x A A' h k => h.bk k) (fun pre x A A' B B' k1 h k2 => KE9.bk k1 h k2)
    (fun (pre : List EZ) A => ∃ lv D, Li9 E w w3.heap.size pre lv D A) (fun _ _ _ => False)
    (fun s A A' ⟨lv, D, h⟩ k => ⟨lv, D, h.tr k (by have := H4.out; omega) (by have := H4.out; omega)⟩) (fun _ _ _ _ h _ => h) ⟨_, _, H4.out.1⟩
    (fun (_ : List EZ) (z : EZ) (a' : Act) (A : World) => ∃ b, a' = { tmps := #[.pointer (some ⟨q, 0, none⟩), undef, .slice none 0 0, .nilIface, .pointer (some ⟨w3.heap.size, 0, none⟩), undef, .pointer (some ⟨b, 0, none⟩), .pointer (some ⟨q, 0, none⟩), .bool true, .bool false, undef, .pointer (some ⟨q, 0, none⟩), .int .i64 N, .slice (some ⟨w2.heap.size, 0, none⟩) 0 N, .pointer (some ⟨q, 0, none⟩), .func (.func 115) #[] #[.pointer (some ⟨x, 0, none⟩)], .int .i64 (z.1 : Nat), ceV z.2.1, undef, undef, undef, undef, undef], defers := [] } ∧ A.heap[b]? = some (.cells (ceC z.2.1) 84 (0, 0))) (fun _ _ _ _ _ ⟨b, h1, h2⟩ k => ⟨b, h1, k.cells h2⟩) ?assign ?body ?done ?stop
  case assign =>
    intro l2 pre z W4 K _ _ hK
    obtain ⟨zi, ⟨zk, zt, ⟨z1, z2, z3⟩, zp, zl, zc⟩, zlo, zhi⟩ := z
    simp only [encE9, ceV, slV]
    gi_wp2
    exact hK _ _ ((Below.refl _ _).alloc (Nat.le_refl _) _) ⟨W4.heap.size, rfl, heap_alloc_new W4 _⟩
  case body =>
    rintro l2 pre z a' A hl2 hrec ⟨lv, L, hli⟩ hG ⟨b, rfl, hb⟩
    obtain ⟨hi0, e, he, g1, g2, g3, g4, g5, g6, g7⟩ := hG
    rw [docC9_yes HB.out.1] at he
    obtain ⟨zi, ⟨zk, zt, ⟨z1, z2, z3⟩, zp, zl, zc⟩, zlo, zhi⟩ := z
    have hlt := (List.getElem?_eq_some_iff.1 he).1
    have hln : L.length + 1 ≤ 33554432 := by have := HB.out.2.2; have := hli.len; omega
    have hbase : w.heap.size ≤ (A.alloc (.cells (ceC (zk, zt, (z1, z2, z3), zp, zl, zc)) 84)).heap.size := by have := hli.below.size; rw [World.size_alloc]; omega
    have HM : Hid ((A.alloc (.cells (ceC (zk, zt, (z1, z2, z3), zp, zl, zc)) 84)).heap[A.heap.size]? = some (.cells (ceC (zk, zt, (z1, z2, z3), zp, zl, zc)) 84 (0, 0)) ∧ OwnC (A.alloc (.cells (ceC (zk, zt, (z1, z2, z3), zp, zl, zc)) 84)) w.heap.size lv L) := ⟨heap_alloc_new A _, owns_below hli.own ((Below.refl _ _).alloc (Nat.le_refl _) _)⟩
    have HLI : Hid (Li9 E w w3.heap.size pre lv L A ∧ (cellsL E)[pre.length]? = some e ∧ (zk = e.1 ∧ zt = e.2.1 ∧ (z1, z2, z3) = e.2.2.1) ∧ InA A zlo zhi (.slice zp zl zc) e.2.2.2 ∧ w4.heap.size ≤ zlo ∧ ∀ y ∈ pre, y.2.2.2 ≤ zlo) := ⟨hli, he, ⟨g1, g2, g3⟩, g4, g5, g7⟩
    have cO : A.cell? ⟨w3.heap.size, 0, none⟩ = some lv := by rw [cell_of_heap hli.box]; rfl
    have b0 : A.cell? ⟨b, 0, none⟩ = some (.int .i32 zk) := by rw [cell_of_heap hb]; rfl
    have b1 : A.cell? ⟨b, 1, none⟩ = some (.string zt) := by rw [cell_of_heap hb]; rfl
    have b2 : A.cell? ⟨b, 2, none⟩ = some (.int .i64 z1) := by rw [cell_of_heap hb]; rfl
    have b3 : A.cell? ⟨b, 3, none⟩ = some (.int .i64 z2) := by rw [cell_of_heap hb]; rfl
    have b4 : A.cell? ⟨b, 4, none⟩ = some (.string z3) := by rw [cell_of_heap hb]; rfl
    have b5 : A.cell? ⟨b, 5, none⟩ = some (.slice zp zl zc) := by rw [cell_of_heap hb]; rfl
    clear hli he g1 g2 g3 g4 g5 g6 g7 hlt hb hi0 hrec hl2
    simp only [ceV, slV]
    gi_wp2_with (gi_at_builtin; refine wpListIn_append_cells rfl (.tmp 18) (.tmp 20) rfl w.heap.size lv L rfl HM.out.2 A.heap.size (zk, zt, (z1, z2, z3), zp, zl, zc) rfl HM.out.1 hln hbase ?_; intro v' A' own' gr'; obtain ⟨pv, nv, cv, ev⟩ : ∃ p n c, v' = .slice p n c := (by obtain ⟨p, c, h, _⟩ := own_rowC own'; exact ⟨p, _, c, h⟩); subst ev; have hbox := list_box (d := (zk, zt, (z1, z2, z3), zp, zl, zc)) HLI.out.1 gr'; have cO' : A'.cell? ⟨w3.heap.size, 0, none⟩ = some lv := (by rw [cell_of_heap hbox]; rfl); have fO' : A'.frozen? ⟨w3.heap.size, 0, none⟩ = false := frozen_of_heap hbox 0; have HBX : Hid ((OwnC A' w.heap.size (.slice pv nv cv) (L ++ [(zk, zt, (z1, z2, z3), zp, zl, zc)]) ∧ (A.alloc (.cells (ceC (zk, zt, (z1, z2, z3), zp, zl, zc)) 84)).grownBy A' lv.ownBlock) ∧ A'.heap[w3.heap.size]? = some (.cells #[lv] 74 (0, 0))) := ⟨⟨own', gr'⟩, hbox⟩; clear own' gr' hbox cO b0 b1 b2 b3 b4 b5 HM)
    exact list_round HLI.out.1 HLI.out.2.1 HLI.out.2.2.1 HLI.out.2.2.2.1 HLI.out.2.2.2.2.1 HLI.out.2.2.2.2.2 HBX.out.1.1 HBX.out.1.2 HBX.out.2 H4.out.2.2
  case stop => intro D c pre W _ h; exact h.elim
  case done =>
    rintro D xs A hD hS ⟨lv, L, hli⟩ hK
    have cO : A.cell? ⟨w3.heap.size, 0, none⟩ = some lv := by rw [cell_of_heap hli.box]; rfl
    have hall : (cellsL E).take xs.length = cellsL E := List.take_of_length_le (by omega)
    have HF : Hid (Li9 E w w3.heap.size xs lv L A ∧ (cellsL E).take xs.length = cellsL E ∧ w4.heap.size ≤ D) := ⟨hli, hall, hD⟩
    clear hli hall hS hD
    gi_wp2
    go_wp2
    have h9 := HF.out.1.tr (tr7_put9 (T := fun t => t = 3) (o' := .deferred none) hK HF.out.2.2) (by have := H4.out; omega) (by have := H4.out; omega)
    exact list_leave A D _ lv rfl rfl hK ⟨⟨L, h9.own, by rw [← HF.out.2.1]; exact h9.are, h9.asc⟩, h9.below⟩
theorem list9_any {B1 B2 : Nat} (v : Value) (E : List Op5) (w : World) (h : DlE w B1 B2 v E) (h0 : sumB E = 0) (hc : sumR E ≤ 2097152) (hl : (cellsL E).length ≤ 2097152) :
    Calls Tryz.prog 34 #[v] w fun r w' => ∃ lv, r = .returned (.tuple #[lv, .nilIface]) ∧ (∃ D, OwnC w' w.heap.size lv D ∧ AreO w' w.heap.size D (cellsL E)) ∧ Below w.heap.size w w' :=
  (list9_asc v E w h h0 hc hl).mono fun r w' ⟨lv, h1, ⟨D, h2, h3, _⟩, h4⟩ => ⟨lv, h1, ⟨D, h2, h3⟩, h4⟩
end Go.Proofs.YthfpmhnnjjikcaaGreatDoor

/- cells.insert, cells.Check. -/
namespace Go.Proofs.YthfpmhnnjjikcaaGreatDoor
open Go Go.RowKit Go.Lib
set_option linter.unusedVariables false

theorem width9_any (r : Int) (w : World) : Calls Tryz.prog 148 #[.int .i32 r] w fun e w' => e = .returned (.int .i64 (max 0 (runeLen r))) ∧ w' = w := by
  have c := Tryz.utf8_RuneLen r w
  obtain ⟨n, hn⟩ : ∃ n, runeLen r = n := ⟨_, rfl⟩
  rw [hn] at c ⊢
  clear hn
  go_enter Tryz.func148, Tryz.ntmps148
  go_wp2_with (go_at_call 161; refine c.mono ?_; rintro e w' ⟨rfl, rfl⟩)
  go_ret
  exact ⟨rfl, rfl⟩
theorem width9_scal {r : Nat} (h : scal r) : ∃ n : Nat, 1 ≤ n ∧ ∀ w, Calls Tryz.prog 148 #[.int .i32 r] w fun e w' => e = .returned (.int .i64 n) ∧ w' = w := by
  refine ⟨(max 0 (runeLen r)).toNat, ?_, ?_⟩
  · unfold scal at h
    unfold runeLen
    repeat' split
    all_goals omega
  · intro w
    have := width9_any r w
    rwa [show max 0 (runeLen (r : Int)) = ((max 0 (runeLen (r : Int))).toNat : Int) by omega] at this
theorem width9_not {z : Int} (h : ¬ isScal z) (w : World) : Calls Tryz.prog 148 #[.int .i32 z] w fun e w' => e = .returned (.int .i64 0) ∧ w' = w := by
  have := width9_any z w
  have e : max 0 (runeLen z) = 0 := by
    unfold isScal at h
    unfold runeLen
    repeat' split
    all_goals omega
  rwa [e] at this

set_option maxHeartbeats 2000000 in
theorem insertC_op (e : C5) (p : Option Addr) (l c : Nat) (w : World) (h : ¬ badC e) :
    Calls Tryz.prog 132 #[ceP e (.slice p l c)] w fun r w' => r = .returned (.tuple #[opV (opOf e) (.slice p l c), .nilIface]) ∧ Below w.heap.size w w' := by
  obtain ⟨k, t, ⟨x, n, u⟩, A⟩ := e
  have b0 := (Below.refl w.heap.size w).alloc (Nat.le_refl _) (.cells (ceA (k, t, (x, n, u), A) (.slice p l c)) 84)
  simp only [ceA] at b0
  by_cases hk : k = -1
  · subst hk
    rw [show opOf (-1, t, (x, n, u), A) = ⟨2, t, (x, n, u), 0, A⟩ from rfl]
    clear h
    go_enter Tryz.func132, Tryz.ntmps132
    go_wp2
    exact bodyPost_ret (v := .tuple #[opV ⟨2, t, (x, n, u), 0, A⟩ (.slice p l c), .nilIface]) (by simp [results, Tryz.results132, go_sem]) rfl ⟨rfl, by go_grown⟩
  · have h1 : isScal k ∧ t = ⟨#[]⟩ ∧ ((x, n, u) : P3) = z0 := by
      unfold badC at h
      simp only [ne_eq, not_and, not_or, Decidable.not_not] at h
      exact h hk
    obtain ⟨h1, rfl, h3⟩ := h1
    simp only [z0, Prod.mk.injEq] at h3
    obtain ⟨rfl, rfl, rfl⟩ := h3
    obtain ⟨r, rfl, hr⟩ := scal_of h1
    rw [show opOf ((r : Int), ⟨#[]⟩, (0, 0, ⟨#[]⟩), A) = ⟨1, ⟨(enc r).toArray⟩, z0, 0, A⟩ from opOf_scal hr A]
    obtain ⟨m, hm, cw⟩ := width9_scal hr
    have hr1 : ((r : Int) == -1) = false := by rw [beq_eq_false_iff_ne]; omega
    have hm0 : ((m : Int) == 0) = false := by rw [beq_eq_false_iff_ne]; omega
    have henc := encU_eq hr
    have gd := fun op x' y' w => guard_pl op x' y' z0 z0 w
    have hne := neq_pl z0 z0 false (by rw [samP_self]; rfl)
    obtain ⟨t0, ht0⟩ : ∃ t0, (⟨(enc r).toArray⟩ : ByteArray) = t0 := ⟨_, rfl⟩
    rw [ht0] at henc ⊢
    clear h h1 hr hk ht0
    go_enter Tryz.func132, Tryz.ntmps132
    go_wp2_with (go_at_call 148; refine (cw _).mono ?_; rintro e w' ⟨rfl, rfl⟩)
    exact bodyPost_ret (v := .tuple #[opV ⟨1, t0, z0, 0, A⟩ (.slice p l c), .nilIface]) (by simp [results, Tryz.results132, go_sem, z0]) rfl ⟨rfl, by go_grown⟩
set_option maxHeartbeats 4000000 in
theorem insertC_bad {I : List Nat} {a : Nat → Addr} (e : C5) (p : Option Addr) (l c : Nat) (w : World) (hI : 4 ∈ I) (hS : Std I a w) (h : badC e) :
    Calls Tryz.prog 132 #[ceP e (.slice p l c)] w fun r w' => r = .returned (.tuple #[opV opZ nilS, errV a 4]) ∧ Below w.heap.size w w' := by
  obtain ⟨k, t, ⟨x, n, u⟩, A⟩ := e
  have b0 := (Below.refl w.heap.size w).alloc (Nat.le_refl _) (.cells (ceA (k, t, (x, n, u), A) (.slice p l c)) 84)
  have gK : (w.alloc (.cells (ceA (k, t, (x, n, u), A) (.slice p l c)) 84)).cell? ⟨7, 0, none⟩ = some (errV a 4) := (hS.below b0).er.cell 4 hI
  have gK2 : ((w.alloc (.cells (ceA (k, t, (x, n, u), A) (.slice p l c)) 84)).alloc (.cells #[.int .i64 0, .string ⟨#[]⟩, .int .i64 0, .int .i64 0, .string ⟨#[]⟩, .int .i64 0, .slice none 0 0] 33)).cell? ⟨7, 0, none⟩ = some (errV a 4) := ((hS.below b0).below ((Below.refl _ _).alloc (Nat.le_refl _) _)).er.cell 4 hI
  simp only [ceA] at b0 gK gK2
  obtain ⟨hk, h⟩ := h
  simp only at hk h
  have hk1 : (k == -1) = false := by simpa using hk
  clear hS hI
  by_cases h1 : isScal k
  · obtain ⟨r, rfl, hr⟩ := scal_of h1
    obtain ⟨m, hm, cw⟩ := width9_scal hr
    have hm0 : ((m : Int) == 0) = false := by rw [beq_eq_false_iff_ne]; omega
    have gd := fun op x' y' w => guard_pl op x' y' (x, n, u) (0, 0, ⟨#[]⟩) w
    cases he : t.toList.isEmpty with
    | true =>
      have hz : ((x, n, u) : P3) ≠ z0 := by
        rcases h with h | h | h
        · exact absurd h1 h
        · exact absurd (by rw [toList_data] at he; have := emp_iff.1 (by rw [toList_data]; exact he); exact this) h
        · exact h
      have hne := neq_pl (x, n, u) (0, 0, ⟨#[]⟩) true (by show (!samP (x, n, u) z0) = true; rw [samP_ne hz]; rfl)
      clear h hk h1 hr hz
      go_enter Tryz.func132, Tryz.ntmps132
      go_wp2_with (go_at_call 148; refine (cw _).mono ?_; rintro e w' ⟨rfl, rfl⟩)
      go_region
      go_wp2
      exact bodyPost_ret (v := .tuple #[opV opZ nilS, errV a 4]) (by simp [results, Tryz.results132, go_sem, z0, opZ, nilS]) rfl ⟨rfl, by go_grown⟩
    | false =>
      clear h hk h1 hr
      go_enter Tryz.func132, Tryz.ntmps132
      go_wp2_with (go_at_call 148; refine (cw _).mono ?_; rintro e w' ⟨rfl, rfl⟩)
      go_region
      go_wp2
      exact bodyPost_ret (v := .tuple #[opV opZ nilS, errV a 4]) (by simp [results, Tryz.results132, go_sem, z0, opZ, nilS]) rfl ⟨rfl, by go_grown⟩
  · have cw := fun W => width9_not h1 W
    clear h hk h1
    go_enter Tryz.func132, Tryz.ntmps132
    go_wp2_with (go_at_call 148; refine (cw _).mono ?_; rintro e w' ⟨rfl, rfl⟩)
    go_region
    go_wp2
    exact bodyPost_ret (v := .tuple #[opV opZ nilS, errV a 4]) (by simp [results, Tryz.results132, go_sem, z0, opZ, nilS]) rfl ⟨rfl, by go_grown⟩
end Go.Proofs.YthfpmhnnjjikcaaGreatDoor

/- cells.push, cells.Of. -/
namespace Go.Proofs.YthfpmhnnjjikcaaGreatDoor
open Go Go.RowKit Go.Lib
set_option linter.unusedVariables false

/-- A cell that isn't too great. -/
structure FitC (e : C5) : Prop where
  t : e.2.1.size ≤ 1048576
  v : e.2.2.1.2.2.size ≤ 1048576
  A : ∀ q ∈ e.2.2.2, q.1.size ≤ 1048576 ∧ q.2.2.2.size ≤ 1048576
  n : e.2.2.2.length ≤ 1048576
theorem enc_le4 (z : Int) : (encodeRune z).length ≤ 4 := by
  unfold encodeRune encodeRuneZ
  repeat' split
  all_goals simp
theorem FitC.fit {e : C5} (h : FitC e) : Fit (opOf e) := by
  obtain ⟨k, t, v, A⟩ := e
  unfold opOf
  split
  · exact ⟨Nat.le_trans h.t (by decide), h.v, h.A, h.n⟩
  · refine ⟨?_, ?_, h.A, h.n⟩
    · have := enc_le4 ((Int.toNat k : Nat) : Int)
      show (⟨(enc k.toNat).toArray⟩ : ByteArray).size ≤ _
      have e2 : (⟨(enc k.toNat).toArray⟩ : ByteArray).size = (enc k.toNat).length := by simp [ByteArray.size]
      rw [e2]
      unfold enc
      omega
    · show (0 : Nat) ≤ _; omega
set_option maxHeartbeats 2000000 in
theorem pushC_bad {I : List Nat} {a : Nat → Addr} (g : Nat) (e : C5) (p : Option Addr) (l c : Nat) (w : World) (hI : ∀ i ∈ IxO, i ∈ I) (hS : Std I a w) (h : badC e) :
    Calls Tryz.prog 113 #[.pointer (some ⟨g, 0, none⟩), ceP e (.slice p l c)] w fun r w' => r = .returned (errV a 4) ∧ Below w.heap.size w w' := by
  have b0 := (Below.refl w.heap.size w).alloc (Nat.le_refl _) (.cells (ceA e (.slice p l c)) 84)
  have c1 := insertC_bad e p l c (w.alloc (.cells (ceA e (.slice p l c)) 84)) (hI 4 (by simp)) (hS.below b0) h
  obtain ⟨k, t, ⟨x, n, u⟩, A⟩ := e
  simp only [ceA] at b0 c1
  clear hS hI h
  go_enter Tryz.func113, Tryz.ntmps113
  go_wp2_with fail
  refine c1.mono ?_; rintro r w2 ⟨rfl, hb2⟩
  have b2 := b0.trans (hb2.mono b0.size)
  clear c1 hb2 b0
  go_wp2
  go_ret
  exact ⟨rfl, b2.alloc b2.size _⟩
set_option maxHeartbeats 2000000 in
theorem pushC_no {I : List Nat} {a : Nat → Addr} (g : Nat) (e : C5) (p : Option Addr) (l c : Nat) (w : World) (hI : ∀ i ∈ IxO, i ∈ I) (hS : Std I a w) (hR : RN w (.slice p l c) e.2.2.2) (hF : FitC e) (x : Nat) (h : celE e = x + 1) :
    Calls Tryz.prog 113 #[.pointer (some ⟨g, 0, none⟩), ceP e (.slice p l c)] w fun r w' => r = .returned (errV a x) ∧ Below w.heap.size w w' := by
  by_cases hb : badC e
  · rw [celE_bad hb] at h
    obtain rfl : x = 4 := by omega
    exact pushC_bad g e p l c w hI hS hb
  rw [celE_op hb] at h
  have b0 := (Below.refl w.heap.size w).alloc (Nat.le_refl _) (.cells (ceA e (.slice p l c)) 84)
  have c1 := insertC_op e p l c (w.alloc (.cells (ceA e (.slice p l c)) 84)) hb
  have cP : Hid (∀ W, Below w.heap.size w W → Calls Tryz.prog 29 #[.pointer (some ⟨g, 0, none⟩), opV (opOf e) (.slice p l c)] W fun r w' => r = .returned (errV a x) ∧ Below W.heap.size W w') := fun W hW =>
    pushB_no g (opOf e) p l c W hI (hS.below hW) (by rw [opOf_A]; exact hR.below hW) hF.fit x h
  obtain ⟨o, ho⟩ : ∃ o, opOf e = o := ⟨_, rfl⟩
  rw [ho] at c1 cP
  obtain ⟨ok, ot, ⟨ox, on, ou⟩, oc, oA⟩ := o
  obtain ⟨k, t, ⟨y, n, u⟩, A⟩ := e
  simp only [ceA] at b0 c1
  clear hS hI h hR hF hb ho
  go_enter Tryz.func113, Tryz.ntmps113
  go_wp2_with fail
  refine c1.mono ?_; rintro r w2 ⟨rfl, hb2⟩
  have b2 := b0.trans (hb2.mono b0.size)
  have b3 := b2.alloc b2.size (.cells #[.int .i64 ok, .string ot, .int .i64 ox, .int .i64 on, .string ou, .int .i64 oc, .slice p l c] 33)
  have c3 := cP.out _ b3
  clear c1 hb2 b0 cP
  go_wp2_with fail
  refine c3.mono ?_; rintro r w4 ⟨rfl, hb4⟩
  have b4 := b3.trans (hb4.mono b3.size)
  clear c3 hb4
  go_wp2
  go_ret
  exact ⟨rfl, b4⟩
set_option maxHeartbeats 2000000 in
theorem pushC_ok {I : List Nat} {a : Nat → Addr} {B g : Nat} {D : Nat → Prop} {F : List Op5} (e : C5) (p : Option Addr) (l c : Nat) (w : World) (hI : ∀ i ∈ IxO, i ∈ I) (hS : Std I a w) (hR : RN w (.slice p l c) e.2.2.2) (hF : FitC e) (hb : ¬ badC e) (h : Gath w B D g F) (hE : OkE (F ++ [opOf e])) (hD : ∀ k, D k → k < w.heap.size) :
    Calls Tryz.prog 113 #[.pointer (some ⟨g, 0, none⟩), ceP e (.slice p l c)] w fun r w' => r = .returned .nilIface ∧ Gath w' B D g (F ++ [opOf e]) ∧ FrB B D w w' := by
  have hBw : B ≤ w.heap.size := by have := BldE.lo h; omega
  have b0 := (Below.refl w.heap.size w).alloc (Nat.le_refl _) (.cells (ceA e (.slice p l c)) 84)
  have c1 := insertC_op e p l c (w.alloc (.cells (ceA e (.slice p l c)) 84)) hb
  have cP : Hid (∀ W, Below w.heap.size w W → Calls Tryz.prog 29 #[.pointer (some ⟨g, 0, none⟩), opV (opOf e) (.slice p l c)] W fun r w' => r = .returned .nilIface ∧ Gath w' B D g (F ++ [opOf e]) ∧ FrB B D w w') := fun W hW =>
    (pushB_ok (opOf e) p l c W hI (hS.below hW) (by rw [opOf_A]; exact hR.below hW) hF.fit (BldE.below h hW) hE (fun k hk => Nat.lt_of_lt_of_le (hD k hk) hW.size)).mono (by
      rintro r w' ⟨h1, h2, h3⟩
      exact ⟨h1, h2, (FrB.of_below hW hBw).trans h3⟩)
  obtain ⟨G, hG⟩ : ∃ G, F ++ [opOf e] = G := ⟨_, rfl⟩
  rw [hG] at cP ⊢
  obtain ⟨o, ho⟩ : ∃ o, opOf e = o := ⟨_, rfl⟩
  rw [ho] at c1 cP
  obtain ⟨ok, ot, ⟨ox, on, ou⟩, oc, oA⟩ := o
  obtain ⟨k, t, ⟨y, n, u⟩, A⟩ := e
  simp only [ceA] at b0 c1
  clear hS hI h hR hF hb ho hG hE hD hBw
  go_enter Tryz.func113, Tryz.ntmps113
  go_wp2_with fail
  refine c1.mono ?_; rintro r w2 ⟨rfl, hb2⟩
  have b2 := b0.trans (hb2.mono b0.size)
  have b3 := b2.alloc b2.size (.cells #[.int .i64 ok, .string ot, .int .i64 ox, .int .i64 on, .string ou, .int .i64 oc, .slice p l c] 33)
  have c3 := cP.out _ b3
  clear c1 hb2 b0 cP b2 b3
  go_wp2_with fail
  refine c3.mono ?_; rintro r w4 ⟨rfl, hg, hf⟩
  have HG : Hid (Gath w4 B D g G ∧ FrB B D w w4) := ⟨hg, hf⟩
  clear c3 hg hf
  go_wp2
  go_ret
  exact ⟨rfl, HG.out.1, HG.out.2⟩
end Go.Proofs.YthfpmhnnjjikcaaGreatDoor

/- cells.Check; the document's Check of a cell. -/
namespace Go.Proofs.YthfpmhnnjjikcaaGreatDoor
open Go Go.RowKit Go.Lib
set_option linter.unusedVariables false
theorem insE_emb (t : ByteArray) (v : P3) (A : List A2) : opE ⟨2, t, v, 0, A⟩ = if t.toList.isEmpty = true ∨ 64 < t.size then 6 else if brk t.data.toList ≠ t.size then 1 else if chkP v ≠ 0 then chkP v else listE false none A := by
  unfold opE
  rw [if_pos (Or.inr rfl)]
  unfold insE
  by_cases h : t.toList.isEmpty = true ∨ 64 < t.size
  · have hf : fldE ⟨2, t, v, 0, A⟩ = 6 := by
      unfold fldE
      rw [if_neg (by simp), if_neg (by simp), if_pos ⟨rfl, h⟩]
    rw [hf, if_pos h]; rfl
  · have hf : fldE ⟨2, t, v, 0, A⟩ = 0 := by
      unfold fldE
      rw [if_neg (by simp), if_neg (by simp), if_neg (fun hh => h hh.2)]
    rw [hf, if_neg h]; rfl
theorem size_emp (t : ByteArray) : t.toList.isEmpty = true ↔ t.size = 0 := by
  rw [toList_data, List.isEmpty_iff_length_eq_zero, size_toList]
end Go.Proofs.YthfpmhnnjjikcaaGreatDoor

/- cells.Of of any list of cells. -/
namespace Go.Proofs.YthfpmhnnjjikcaaGreatDoor
open Go Go.RowKit Go.Lib
set_option linter.unusedVariables false

/-- The number of the first cell that isn't good, and its error. -/
def celP : List C5 → Nat × Nat
  | [] => (0, 0)
  | o :: r => if celE o ≠ 0 then (0, celE o) else if (celP r).2 = 0 then (0, 0) else ((celP r).1 + 1, (celP r).2)
theorem cel_none : ∀ {E : List C5}, (∀ o ∈ E, celE o = 0) → celP E = (0, 0)
  | [], _ => rfl
  | o :: r, h => by
    have := cel_none (E := r) fun x hx => h x (List.mem_cons_of_mem _ hx)
    rw [celP, if_neg (by simpa using h o (List.mem_cons_self ..)), this]
    rfl
theorem cel_at : ∀ {E : List C5} {k : Nat} {o : C5}, E[k]? = some o → (∀ x ∈ E.take k, celE x = 0) → celE o ≠ 0 → celP E = (k, celE o)
  | [], k, o, h, _, _ => by simp at h
  | x :: r, 0, o, h, _, he => by
    obtain rfl : x = o := by simpa using h
    rw [celP, if_pos he]
  | x :: r, k + 1, o, h, hg, he => by
    have := cel_at (E := r) (k := k) (by simpa using h) (fun y hy => hg y (by rw [List.take_succ_cons]; exact List.mem_cons_of_mem _ hy)) he
    rw [celP, if_neg (by simpa using hg x (by rw [List.take_succ_cons]; exact List.mem_cons_self ..)), this, if_neg he]
theorem celP_zero {E : List C5} : (celP E).2 = 0 ↔ ∀ o ∈ E, celE o = 0 := by
  constructor
  · intro h
    induction E with
    | nil => intro o ho; cases ho
    | cons x r ih =>
      rw [celP] at h
      by_cases hx : celE x = 0
      · rw [if_neg (by simpa using hx)] at h
        have hr : (celP r).2 = 0 := by
          by_cases h2 : (celP r).2 = 0
          · exact h2
          · rw [if_neg h2] at h; exact h
        intro o ho
        rcases List.mem_cons.1 ho with rfl | ho
        · exact hx
        · exact ih hr o ho
      · rw [if_pos hx] at h; exact absurd h hx
  · intro h; rw [cel_none h]
theorem len5_op {e : C5} (h : celE e = 0) : len5 (opOf e) = 1 := by
  have hg := good_iff.1 h
  obtain ⟨_, hu, hk⟩ := opOf_good hg
  obtain ⟨k, t, v, A⟩ := e
  unfold len5
  rw [if_pos hk]
  unfold lenO
  rcases hg.1 with ⟨h1, _⟩ | ⟨r, h1, h2, h3, h4⟩
  · simp only at h1
    subst h1
    rw [if_neg (by rw [opOf_k]; simp)]; rfl
  · simp only at h1 h3 h4
    subst h1; subst h3; subst h4
    rw [opOf_scal h2, if_pos rfl, enc_scs h2]; rfl
theorem sums_cells : ∀ (F : List C5), (∀ e ∈ F, celE e = 0) → sumB (F.map opOf) = 0 ∧ sumR (F.map opOf) = F.length
  | [], _ => ⟨rfl, rfl⟩
  | e :: F, h => by
    obtain ⟨h1, h2⟩ := sums_cells F fun x hx => h x (List.mem_cons_of_mem _ hx)
    have he := h e (List.mem_cons_self ..)
    have hk := (opOf_good (good_iff.1 he)).2.2
    rw [List.map_cons, sumB_cons, sumR_cons, h1, h2, base_1 hk]
    have : resO (opOf e) = 1 := by unfold resO; rw [if_neg (by omega), len5_op he]
    rw [this]
    exact ⟨rfl, by rw [List.length_cons]; omega⟩
theorem not_bad {e : C5} (h : celE e = 0) : ¬ badC e := fun hb => by rw [celE_bad hb] at h; cases h
theorem okE_cells {F : List C5} (h : ∀ e ∈ F, celE e = 0) (hF : ∀ e ∈ F, FitC e) (ht : txtS (F.map opOf) ≤ 8388608) (hl : F.length ≤ 1048576) : OkE (F.map opOf) := by
  obtain ⟨h1, h2⟩ := sums_cells F h
  refine ⟨fun o ho => ?_, fun o ho => ?_, ht, by rw [List.length_map]; omega, by rw [h1]; decide, by rw [h2]; omega⟩
  · obtain ⟨e, he, rfl⟩ := List.mem_map.1 ho
    have := h e he
    rwa [celE_op (not_bad this)] at this
  · obtain ⟨e, he, rfl⟩ := List.mem_map.1 ho
    exact (hF e he).fit.fitA
set_option maxHeartbeats 4000000 in
set_option maxRecDepth 100000 in
theorem ofC_any {I : List Nat} {a : Nat → Addr} (v : Value) (D0 : List CV) (E : List C5) (w : World) (hI : ∀ i ∈ IxO, i ∈ I) (hS : Std I a w) (hrow : RowC w v D0) (hre : Are w D0 E) (hF : ∀ e ∈ E, FitC e) (hl : E.length ≤ 1048576) (ht : txtS (E.map opOf) ≤ 8388608) :
    Calls Tryz.prog 82 #[v] w fun r w' => ∃ dv, r = .returned (.tuple #[dv, .int .i64 (celP E).1, errOf a (celP E).2]) ∧ ((celP E).2 = 0 → DelV w' w.heap.size w.heap.size dv (docOf E)) ∧ ((celP E).2 ≠ 0 → dv = .pointer none) ∧ Below w.heap.size w w' := by
  have hDE := forall2_len hre
  obtain ⟨n, hn⟩ : ∃ n, D0.length = n := ⟨_, rfl⟩
  obtain ⟨p, cap, rfl, hcap, hnz, hc⟩ := hrow
  have cN := new_any (B := w.heap.size) (D := fun k => k < w.heap.size) w (Nat.le_refl _) (by omega)
  have HC : Hid (D0 ≠ [] → ∃ b off, p = some ⟨b, off, none⟩ ∧ InC w b off D0) := hc
  have HN : Hid (D0.length = n ∧ E.length = n) := ⟨hn, by rw [← hDE, hn]⟩
  have hl : n ≤ 1048576 := by rw [← hn, hDE]; exact hl
  have HF : Hid ((∀ e ∈ E, FitC e) ∧ txtS (E.map opOf) ≤ 8388608) := ⟨hF, ht⟩
  have HK : Hid (∀ W (k : Nat) d e, Below w.heap.size w W → D0[k]? = some d → E[k]? = some e → ∀ g, (∀ x, celE e = x + 1 → Calls Tryz.prog 113 #[.pointer (some ⟨g, 0, none⟩), ceV d] W fun r w' => r = .returned (errV a x) ∧ Below W.heap.size W w') ∧ (∀ F, ¬ badC e → Gath W w.heap.size (fun k => k < w.heap.size) g F → OkE (F ++ [opOf e]) → Calls Tryz.prog 113 #[.pointer (some ⟨g, 0, none⟩), ceV d] W fun r w' => r = .returned .nilIface ∧ Gath w' w.heap.size (fun k => k < w.heap.size) g (F ++ [opOf e]) ∧ FrB w.heap.size (fun k => k < w.heap.size) W w')) := fun W k d e hW h1 h2 g => by
    obtain ⟨y, hy, r1⟩ := forall2_get hre k d h1
    obtain rfl : y = e := Option.some.inj (hy.symm.trans h2)
    have fy := hF y (List.mem_of_getElem? hy)
    have hR := r1.2.2.2.below hW
    have hv : ceV d = ceP y (.slice d.2.2.2.1 d.2.2.2.2.1 d.2.2.2.2.2) := by
      obtain ⟨dk, dt, dv, ds⟩ := d
      obtain ⟨x1, x2, x3, _⟩ := r1
      simp only at x1 x2 x3
      subst x1; subst x2; subst x3; rfl
    rw [hv]
    exact ⟨fun x hx => pushC_no g y _ _ _ W hI (hS.below hW) hR fy x hx, fun F hb hG hO => pushC_ok y _ _ _ W hI (hS.below hW) hR fy hb hG hO (fun k hk => Nat.lt_of_lt_of_le hk hW.size)⟩
  have HE : Hid (∀ k d, D0[k]? = some d → ∃ e, E[k]? = some e) := fun k d h => by obtain ⟨y, hy, _⟩ := forall2_get hre k d h; exact ⟨y, hy⟩
  obtain ⟨g, hgs⟩ : ∃ g, w.heap.size = g := ⟨_, rfl⟩
  have cN' : Calls Tryz.prog 9 #[] w fun e w' => e = .returned (.pointer (some ⟨g, 0, none⟩)) ∧ Gath w' w.heap.size (fun k => k < w.heap.size) g [] ∧ Below w.heap.size w w' := by rw [← hgs]; exact cN
  rw [hn] at hcap ⊢
  clear hc hn hDE hre hnz hF hS ht cN hgs
  go_enter Tryz.func82, Tryz.ntmps82
  go_wp2_with fail
  refine cN'.mono ?_; rintro r w1 ⟨rfl, hg1, hb1⟩
  have HG1 : Hid (Gath w1 w.heap.size (fun k => k < w.heap.size) g []) := hg1
  clear cN' hg1
  go_wp2
  go_loopw [12] (fun i wr => ∃ (k : Nat), k ≤ n ∧ i = .int .i64 k ∧ Hid (Gath wr w.heap.size (fun k => k < w.heap.size) g ((E.take k).map opOf)) ∧ Hid (∀ e ∈ E.take k, celE e = 0) ∧ Below w.heap.size w wr) (fun i _ => n - (RowKit.intOf i).toNat)
  case atStart => exact ⟨0, Nat.zero_le _, rfl, by rw [List.take_zero]; exact HG1, fun e he => (by rw [List.take_zero] at he; cases he), hb1⟩
  case round =>
    clear HG1 hb1
    obtain ⟨k, hk, rfl, HG, HO, hbw⟩ := hrel
    by_cases hlt : k < n
    · have hltI : (k : Int) < n := by omega
      obtain ⟨d, hd⟩ : ∃ d, D0[k]? = some d := ⟨_, List.getElem?_eq_getElem (by rw [HN.out.1]; exact hlt)⟩
      obtain ⟨e, he⟩ := HE.out k d hd
      obtain ⟨b, off, rfl, hin⟩ := HC.out (by intro e; rw [e] at hd; simp at hd)
      obtain ⟨x0, x1, x2, x3, x4, x5⟩ := cellsC_get D0 k d hd
      have c0 := (hin.below hbw) _ _ x0
      have c1 := (hin.below hbw) _ _ x1
      have c2 := (hin.below hbw) _ _ x2
      have c3 := (hin.below hbw) _ _ x3
      have c4 := (hin.below hbw) _ _ x4
      have c5 := (hin.below hbw) _ _ x5
      simp only [← Nat.add_assoc] at c0 c1 c2 c3 c4 c5
      have bw : Below wr.heap.size wr (wr.alloc (.cells (ceC d) 84)) := (Below.refl _ _).alloc (Nat.le_refl _) _
      have ba : Below w.heap.size w (wr.alloc (.cells (ceC d) 84)) := hbw.trans (bw.mono hbw.size)
      obtain ⟨cB, cG⟩ := HK.out _ k d e ba hd he g
      have HGa : Hid (Gath (wr.alloc (.cells (ceC d) 84)) w.heap.size (fun k => k < w.heap.size) g ((E.take k).map opOf)) := BldE.below HG.out bw
      have HT : Hid (E.take (k + 1) = E.take k ++ [e] ∧ E[k]? = some e) := by refine ⟨?_, he⟩; rw [List.take_add_one, he]; rfl
      obtain ⟨rz, hrz⟩ : ∃ z, celE e = z := ⟨_, rfl⟩
      cases rz with
      | zero =>
        have HO2 : Hid (∀ e ∈ E.take (k + 1), celE e = 0) := by
          show ∀ e ∈ E.take (k + 1), celE e = 0
          rw [HT.out.1]
          intro y hy
          rcases List.mem_append.1 hy with hy | hy
          · exact HO.out y hy
          · rw [List.mem_singleton.1 hy]; exact hrz
        have hok : OkE ((E.take k).map opOf ++ [opOf e]) := by
          have := okE_cells HO2.out (fun y hy => HF.out.1 y (List.mem_of_mem_take hy)) (by rw [List.map_take]; exact Nat.le_trans (txtS_take _ _) HF.out.2) (by rw [List.length_take]; omega)
          rwa [HT.out.1, List.map_append] at this
        have cP := cG ((E.take k).map opOf) (not_bad hrz) HGa.out hok
        have hm : (E.take k).map opOf ++ [opOf e] = (E.take (k + 1)).map opOf := by rw [HT.out.1, List.map_append]; rfl
        rw [hm] at cP
        clear cB cG HG HGa HO hin hd he hrz HT hok hm x0 x1 x2 x3 x4 x5
        obtain ⟨dk, dt, ⟨dx, dn, du⟩, ds⟩ := d
        obtain ⟨dp, dl, dcap⟩ := ds
        simp only [slV, ceC, ceV] at c0 c1 c2 c3 c4 c5 cP ba bw
        go_wp2_with fail
        refine cP.mono ?_; rintro r w5 ⟨rfl, h5, f5⟩
        have b5 : Below w.heap.size w w5 := ba.trans f5.below
        have HG5 : Hid (Gath w5 w.heap.size (fun k => k < w.heap.size) g ((E.take (k + 1)).map opOf)) := h5
        clear cP c0 c1 c2 c3 c4 c5 ba bw h5 f5
        go_wp2
        go_roundw
        case rel => exact ⟨k + 1, by omega, by go_num, HG5, HO2, b5⟩
        case measure => simp [RowKit.intOf]; omega
      | succ x =>
        have HB : Hid (celP E = (k, x + 1)) := by
          have := cel_at he HO.out (by rw [hrz]; omega)
          rw [hrz] at this
          exact this
        have cP := cB x hrz
        clear cB cG HG HGa HO hin hd he hrz HT x0 x1 x2 x3 x4 x5
        obtain ⟨dk, dt, ⟨dx, dn, du⟩, ds⟩ := d
        obtain ⟨dp, dl, dcap⟩ := ds
        simp only [slV, ceC, ceV] at c0 c1 c2 c3 c4 c5 cP ba bw
        go_wp2_with fail
        refine cP.mono ?_; rintro r w5 ⟨rfl, hb5⟩
        have b5 := ba.trans (hb5.mono ba.size)
        clear cP c0 c1 c2 c3 c4 c5 ba bw hb5
        go_wp2
        go_ret3
        exact ⟨.pointer none, by rw [HB.out]; rfl, fun h => (by rw [HB.out] at h; cases h), fun _ => rfl, b5⟩
    · have hltI : ¬ (k : Int) < n := by omega
      have hE : E.take k = E := List.take_of_length_le (by rw [HN.out.2]; omega)
      rw [hE] at HG HO
      have HB : Hid (celP E = (0, 0)) := cel_none HO.out
      have cD := delta_any wr HG.out (okE_cells HO.out HF.out.1 HF.out.2 (by rw [HN.out.2]; exact hl))
      clear hE HG HO
      go_wp2_with fail
      refine cD.mono ?_; rintro r w5 ⟨dv, rfl, h5, hb5⟩
      have H5 : Hid (DelV w5 w.heap.size w.heap.size dv (docOf E)) := by
        obtain ⟨q, pv, PL, x1, x2, x3, x4, x5⟩ := h5
        exact ⟨q, pv, PL, x1, Nat.le_trans hbw.size x2, x3, own_weaken x4 hbw.size, x5⟩
      have b5 := hbw.trans (hb5.mono hbw.size)
      clear cD h5 hb5
      go_wp2
      go_ret3
      exact ⟨dv, by rw [HB.out]; rfl, fun _ => H5.out, fun h => absurd (by rw [HB.out]) h, b5⟩
end Go.Proofs.YthfpmhnnjjikcaaGreatDoor

/- What vellumref04.Refuse and Check answer: what an insert is refused with. -/
namespace Go.Proofs.YthfpmhnnjjikcaaGreatDoor
open Go Go.RowKit Go.Lib
set_option linter.unusedVariables false

theorem Fit.tiny {o : Op5} (h : Fit o) : Tiny o.A := h.A

set_option maxHeartbeats 2000000 in
theorem ref_ins {I : List Nat} {a : Nat → Addr} (o : Op5) (s : Value) (w : World) (hS : Std I a w) (hR : RN w s o.A) (hF : Fit o) :
    Calls Tryz.prog 93 #[opV o s] w fun r w' => r = .returned (.int .i64 (insE o)) ∧ Below w.heap.size w w' := by
  have b0 := (Below.refl w.heap.size w).alloc (Nat.le_refl _) (.cells (opC o s) 33)
  have D0 := BoxO.new w o s
  have cU : Hid (∀ b, decide (brk o.t.data.toList = o.t.size) = b → ∀ W, Calls Tryz.prog 120 #[.string o.t] W fun r w' => r = .returned (.bool b) ∧ Below W.heap.size W w') := fun b hb W => ref_utf8 o.t W (by have := hF.t; omega) b hb
  have cV : Hid (∀ W, Calls Tryz.prog 121 #[pl o.v.1 o.v.2.1 o.v.2.2] W fun r w' => r = .returned (.int .i64 (chkP o.v)) ∧ Below W.heap.size W w') := fun W => ref_chk _ _ _ W (by have := hF.v; omega)
  have cA : Hid (∀ W, Below w.heap.size w W → Calls Tryz.prog 94 #[s, .bool false] W fun r w' => r = .returned (.int .i64 (listE false none o.A)) ∧ Below W.heap.size W w') := fun W hW => ref_check s o.A false W (hS.below hW) (hR.row.below hW) hF.tiny (by have := hF.n; omega)
  obtain ⟨E, hE⟩ : ∃ E, insE o = E := ⟨_, rfl⟩
  rw [hE]
  obtain ⟨V, hV⟩ : ∃ V, chkP o.v = V := ⟨_, rfl⟩
  obtain ⟨L, hL⟩ : ∃ L, listE false none o.A = L := ⟨_, rfl⟩
  rw [hV] at cV
  rw [hL] at cA
  have hE' : E = if fldE o ≠ 0 then fldE o else if brk o.t.data.toList ≠ o.t.size then 1 else if V ≠ 0 then V else L := by rw [← hE, ← hV, ← hL]; rfl
  have hz : o.v = z0 → V = 0 := fun h => by rw [← hV, h]; exact chk_z0
  obtain ⟨U, hU⟩ : ∃ U, decide (brk o.t.data.toList = o.t.size) = U := ⟨_, rfl⟩
  have hU' : (brk o.t.data.toList ≠ o.t.size) = (U = false) := by rw [← hU]; simp
  simp only [hU'] at hE'
  have cU : Hid (∀ W, Calls Tryz.prog 120 #[.string o.t] W fun r w' => r = .returned (.bool U) ∧ Below W.heap.size W w') := cU.out U hU
  clear hE hV hL hU hU' hF hS hR
  have HD : Hid (BoxO (w.alloc (.cells (opC o s) 33)) w.heap.size o s) := D0
  have HA : Hid (∀ W, Below (w.alloc (.cells (opC o s) 33)).heap.size (w.alloc (.cells (opC o s) 33)) W → Calls Tryz.prog 94 #[s, .bool false] W fun r w' => r = .returned (.int .i64 L) ∧ Below W.heap.size W w') := fun W hW => cA.out W (b0.trans (hW.mono b0.size))
  clear cA
  obtain ⟨k, t, ⟨x, n, u⟩, c, A⟩ := o
  obtain ⟨d0, d1, d2, d3, d4, d5, d6⟩ := D0
  simp only at d0 d1 d2 d3 d4 d5 d6 cU cV hz
  simp only [opC] at b0 d0 d1 d2 d3 d4 d5 d6 HD HA
  have gd := fun op x' y' w => guard_pl op x' y' (x, n, u) (0, 0, ⟨#[]⟩) w
  unfold fldE at hE'
  simp only at hE'
  have fin : ∀ w2, Below (w.alloc (.cells #[.int .i64 k, .string t, .int .i64 x, .int .i64 n, .string u, .int .i64 c, s] 33)).heap.size (w.alloc (.cells #[.int .i64 k, .string t, .int .i64 x, .int .i64 n, .string u, .int .i64 c, s] 33)) w2 → Below w.heap.size w w2 := fun w2 h => b0.trans (h.mono b0.size)
  by_cases k1 : k = 1
  · subst k1
    by_cases c0 : c = 0
    · subst c0
      cases he : t.toList.isEmpty with
      | true =>
        have hE2 : E = 9 := by rw [hE']; simp [he]
        subst hE2
        clear gd cU cV HA hz hE' HD fin
        go_enter Tryz.func93, Tryz.ntmps93
        go_wp2
        go_ret
        exact ⟨rfl, b0⟩
      | false =>
        by_cases hz0 : (x, n, u) = z0
        · have hne := neq_pl (x, n, u) (0, 0, ⟨#[]⟩) false (by rw [hz0]; show (!samP z0 z0) = false; rw [samP_self]; rfl)
          have hV0 := hz hz0
          cases U with
          | false =>
            have hE2 : E = 1 := by rw [hE']; simp [he, hz0]
            subst hE2
            clear hz hz0 hV0 cV HA hE' HD
            go_enter Tryz.func93, Tryz.ntmps93
            go_wp2_with fail
            refine (cU.out _).mono ?_; rintro r w2 ⟨rfl, h2⟩
            have b2 := fin _ h2
            go_wp2
            go_ret
            exact ⟨rfl, b2⟩
          | true =>
            have hE2 : E = L := by rw [hE', hV0]; simp [he, hz0]
            subst hE2
            clear hz hz0 hV0 cV hE'
            go_enter Tryz.func93, Tryz.ntmps93
            go_wp2_with fail
            refine (cU.out _).mono ?_; rintro r w2 ⟨rfl, h2⟩
            obtain ⟨p0, p1, p2, p3, p4, p5, p6⟩ := HD.out.below h2
            simp only at p0 p1 p2 p3 p4 p5 p6
            have c2 := HA.out _ h2
            have b2 := fin _ h2
            clear d0 d1 d2 d3 d4 d5 d6 h2
            go_wp2_with fail
            refine c2.mono ?_; rintro r w3 ⟨rfl, h3⟩
            go_wp2
            go_ret
            exact ⟨rfl, b2.trans (h3.mono b2.size)⟩
        · have hne := neq_pl (x, n, u) (0, 0, ⟨#[]⟩) true (by show (!samP (x, n, u) z0) = true; rw [samP_ne hz0]; rfl)
          have hE2 : E = 9 := by rw [hE']; simp [he, hz0]
          subst hE2
          clear hz hz0 cV cU HA hE' HD fin
          go_enter Tryz.func93, Tryz.ntmps93
          go_wp2
          go_ret
          exact ⟨rfl, b0⟩
    · have hc : (c == 0) = false := by simpa using c0
      have hE2 : E = 9 := by rw [hE']; simp [c0]
      subst hE2
      clear hz cV cU HA hE' HD fin c0
      go_enter Tryz.func93, Tryz.ntmps93
      go_wp2
      go_ret
      exact ⟨rfl, b0⟩
  · have hk1 : (k != 1) = true := by simpa using k1
    by_cases k2 : k = 2
    · subst k2
      clear hk1 k1
      by_cases c0 : c = 0
      · subst c0
        cases he : t.toList.isEmpty with
        | true =>
          have hE2 : E = 6 := by rw [hE']; simp [he]
          subst hE2
          clear gd cU cV HA hz hE' HD fin
          go_enter Tryz.func93, Tryz.ntmps93
          go_wp2
          go_ret
          exact ⟨rfl, b0⟩
        | false =>
          by_cases h64 : 64 < t.size
          · have h64I : (64 : Int) < (t.size : Int) := by omega
            have hE2 : E = 6 := by rw [hE']; simp [he, h64]
            subst hE2
            clear gd cU cV HA hz hE' HD fin
            go_enter Tryz.func93, Tryz.ntmps93
            go_wp2
            go_ret
            exact ⟨rfl, b0⟩
          · have h64I : ¬ (64 : Int) < (t.size : Int) := by omega
            cases U with
            | false =>
              have hE2 : E = 1 := by rw [hE']; simp [he, h64]
              subst hE2
              clear hz cV HA hE' HD gd
              go_enter Tryz.func93, Tryz.ntmps93
              go_wp2_with fail
              refine (cU.out _).mono ?_; rintro r w2 ⟨rfl, h2⟩
              have b2 := fin _ h2
              go_wp2
              go_ret
              exact ⟨rfl, b2⟩
            | true =>
              by_cases hV : V = 0
              · have hE2 : E = L := by rw [hE']; simp [he, h64, hV]
                subst hE2
                subst hV
                clear hz hE' gd
                go_enter Tryz.func93, Tryz.ntmps93
                go_wp2_with fail
                refine (cU.out _).mono ?_; rintro r w2 ⟨rfl, h2⟩
                obtain ⟨p0, p1, p2, p3, p4, p5, p6⟩ := HD.out.below h2
                simp only at p0 p1 p2 p3 p4 p5 p6
                clear d0 d1 d2 d3 d4 d5 d6
                go_wp2_with fail
                refine (cV.out _).mono ?_; rintro r w3 ⟨rfl, h3⟩
                have h23 := h2.trans (h3.mono h2.size)
                obtain ⟨q0, q1, q2, q3, q4, q5, q6⟩ := HD.out.below h23
                simp only at q0 q1 q2 q3 q4 q5 q6
                have c2 := HA.out _ h23
                have b3 := fin _ h23
                clear p0 p1 p2 p3 p4 p5 p6 h2 h3 h23
                go_wp2_with fail
                refine c2.mono ?_; rintro r w4 ⟨rfl, h4⟩
                go_wp2
                go_ret
                exact ⟨rfl, b3.trans (h4.mono b3.size)⟩
              · have hE2 : E = V := by rw [hE']; simp [he, h64, hV]
                subst hE2
                have hVI : ((E : Int) == 0) = false := by simp; omega
                clear hz hE' gd HA
                go_enter Tryz.func93, Tryz.ntmps93
                go_wp2_with fail
                refine (cU.out _).mono ?_; rintro r w2 ⟨rfl, h2⟩
                obtain ⟨p0, p1, p2, p3, p4, p5, p6⟩ := HD.out.below h2
                simp only at p0 p1 p2 p3 p4 p5 p6
                clear d0 d1 d2 d3 d4 d5 d6
                go_wp2_with fail
                refine (cV.out _).mono ?_; rintro r w3 ⟨rfl, h3⟩
                have b3 := fin _ (h2.trans (h3.mono h2.size))
                go_wp2
                go_ret
                exact ⟨rfl, b3⟩
      · have hc : (c == 0) = false := by simpa using c0
        have hE2 : E = 9 := by rw [hE']; simp [c0]
        subst hE2
        clear hz cV cU HA hE' HD fin c0 gd
        go_enter Tryz.func93, Tryz.ntmps93
        go_wp2
        go_ret
        exact ⟨rfl, b0⟩
    · have hk2 : (k != 2) = true := by simpa using k2
      have hE2 : E = 5 := by rw [hE']; simp [k1, k2]
      subst hE2
      clear hz cV cU HA hE' HD fin gd k1 k2
      go_enter Tryz.func93, Tryz.ntmps93
      go_wp2
      go_ret
      exact ⟨rfl, b0⟩
end Go.Proofs.YthfpmhnnjjikcaaGreatDoor

/- What vellumref04.copied and vellumref04.Join answer. -/
namespace Go.Proofs.YthfpmhnnjjikcaaGreatDoor
open Go Go.RowKit Go.Lib
set_option linter.unusedVariables false
end Go.Proofs.YthfpmhnnjjikcaaGreatDoor

/- What vellumref04.Length answers of inserts. -/
namespace Go.Proofs.YthfpmhnnjjikcaaGreatDoor
open Go Go.RowKit Go.Lib
set_option linter.unusedVariables false

set_option maxHeartbeats 1000000 in
theorem refLen4_any (o : Op5) (s : Value) (w : World) (hO : Ins o) (ht : o.t.size ≤ 8388608) :
    Calls Tryz.prog 106 #[opV o s] w fun r w' => r = .returned (.int .i64 (lenO o)) ∧ Below w.heap.size w w' := by
  have b0 := (Below.refl w.heap.size w).alloc (Nat.le_refl _) (.cells (opC o s) 33)
  have c1 := fun W => ref_list o.t W (by omega)
  have hk := hO.kind
  unfold lenO
  obtain ⟨k, t, ⟨x, n, u⟩, c, A⟩ := o
  simp only at hk c1
  simp only [opC] at b0
  rcases hk with ⟨hk, hv⟩ | ⟨hk, hv⟩
  · clear hv
    subst hk
    rw [if_pos rfl]
    obtain ⟨n1, hn1⟩ : ∃ n, (scs t.data.toList).length = n := ⟨_, rfl⟩
    simp only [hn1] at c1 ⊢
    clear hn1
    go_enter Tryz.func106, Tryz.ntmps106
    go_wp2_with fail
    refine (c1 _).mono ?_; rintro r w2 ⟨v, rfl, _, ⟨g, cap, rfl⟩, hb2⟩
    have b2 := b0.trans (hb2.mono b0.size)
    go_wp2
    go_ret
    exact ⟨rfl, b2⟩
  · clear hv
    subst hk
    rw [if_neg (by show ¬ (2 : Int) = 1; decide)]
    go_enter Tryz.func106, Tryz.ntmps106
    go_wp2
    go_ret
    exact ⟨rfl, b0⟩
end Go.Proofs.YthfpmhnnjjikcaaGreatDoor

/- What vellumref04.Length, Cells and Newlines answer of inserts. -/
namespace Go.Proofs.YthfpmhnnjjikcaaGreatDoor
open Go Go.RowKit Go.Lib
set_option linter.unusedVariables false

theorem ub10 (z : Int) (h : 128 ≤ z) (h1 : z < 256) : ¬ z.toNat.toUInt8 = 10 := fun e => by
  have := congrArg UInt8.toNat e
  rw [u8_nat z (by omega) h1] at this
  simp at this
  omega
theorem count_enc {r : Nat} (h : scal r) : (enc r).count 10 = if r = 10 then 1 else 0 := by
  have h' := h
  unfold scal at h'
  by_cases h1 : r < 128
  · rw [enc_one h1]
    by_cases h0 : r = 10
    · subst h0; rfl
    · rw [if_neg h0, List.count_eq_zero]
      intro hm
      have e := congrArg UInt8.toNat (List.mem_singleton.1 hm)
      rw [u8_nat _ (by omega) (by omega)] at e
      simp at e
      omega
  · rw [if_neg (by omega), List.count_eq_zero]
    intro hm
    by_cases h2 : r < 2048
    · rw [enc_two (by omega) h2] at hm
      simp only [List.mem_cons, List.not_mem_nil, or_false] at hm
      rcases hm with e | e <;> exact ub10 _ (by omega) (by omega) e.symm
    by_cases h3 : r < 65536
    · rw [enc_three (by omega) h3 h] at hm
      simp only [List.mem_cons, List.not_mem_nil, or_false] at hm
      rcases hm with e | e | e <;> exact ub10 _ (by omega) (by omega) e.symm
    · rw [enc_four (by omega) (by omega)] at hm
      simp only [List.mem_cons, List.not_mem_nil, or_false] at hm
      rcases hm with e | e | e | e <;> exact ub10 _ (by omega) (by omega) e.symm
theorem count_encs : ∀ (rs : List Nat), (∀ r ∈ rs, scal r) → (encs rs).count 10 = rs.countP (fun r => ((r : Nat) : Int) == 10)
  | [], _ => rfl
  | r :: rs, h => by
    rw [encs, List.count_append, count_enc (h r (by simp)), count_encs rs (fun x hx => h x (by simp [hx])), List.countP_cons]
    by_cases h0 : r = 10
    · subst h0; simp; omega
    · have : (((r : Nat) : Int) == 10) = false := by simp; omega
      rw [if_neg h0, this]
      simp
/-- How many cells of a list are newlines. -/
def newlC (L : List C5) : Nat := L.countP fun e => e.1 == 10
theorem newlC_of {o : Op5} (h : Ins o) : newlC (cellsOf o) = newlO o := by
  unfold newlC cellsOf newlO
  split
  · obtain ⟨h1, h2, _⟩ := valid_text o.t h.utf
    unfold mkC countByte
    rw [List.countP_map]
    conv => rhs; rw [h2]
    rw [count_encs _ h1]
    rfl
  · rfl
theorem newlC_le (L : List C5) : newlC L ≤ L.length := List.countP_le_length

/-- All blocks of numbers are as they were. -/
def Keep32 (w w' : World) : Prop := ∀ (k : Nat) (cur : Array Value), w.heap[k]? = some (.cells cur 21 (0, 0)) → w'.heap[k]? = w.heap[k]?
theorem keep32_below {w w' : World} (hb : Below w.heap.size w w') : Keep32 w w' := fun k cur hk => hb.block k (Array.getElem?_eq_some_iff.1 hk).1
theorem keep32_own {w w' : World} {B : Nat} {v : Value} {zs : List Int} (h : Own32 B w v zs) (hk : Keep32 w w') : Own32 B w' v zs := by
  obtain ⟨hl, h⟩ := h
  refine ⟨hl, ?_⟩
  rcases h with h | ⟨g, cap, cur, h1, h2, h3, h4⟩
  · exact Or.inl h
  · exact Or.inr ⟨g, cap, cur, h1, h2, (hk g cur h3).trans h3, h4⟩
theorem keep32_grown {w w' : World} {B : Nat} {v : Value} {D : List CV} (h : OwnC w B v D) (g : w.grownBy w' v.ownBlock) : Keep32 w w' := fun k cur hk => by
  refine g.block k (Array.getElem?_eq_some_iff.1 hk).1 fun e => ?_
  rcases h.2 with ⟨rfl, _⟩ | ⟨b, cap, cur', rfl, _, h3, _⟩
  · cases e
  · simp only [Value.ownBlock, Option.some.injEq] at e
    subst e
    rw [h3] at hk
    simp only [Option.some.injEq, Obj.cells.injEq] at hk
    exact absurd hk.2.1 (by decide)

end Go.Proofs.YthfpmhnnjjikcaaGreatDoor

/- The document's deltas: Same, SameOp, Insert, Len. -/
namespace Go.Proofs.YthfpmhnnjjikcaaGreatDoor
open Go Go.RowKit Go.Lib
set_option linter.unusedVariables false

set_option maxHeartbeats 1000000 in
theorem same6o_any (o o' : Op5) (s s' : Value) (w : World) (hA : RowA w s o.A) (hB : RowA w s' o'.A) (hl : o.A.length ≤ 4194304) (hl2 : o'.A.length ≤ 4194304) :
    Calls Tryz.prog 96 #[opV o s, opV o' s'] w fun r w' => r = .returned (.bool (decide (o = o'))) ∧ Below w.heap.size w w' := by
  have b0 := ((Below.refl w.heap.size w).alloc (Nat.le_refl _) (.cells (opC o s) 33)).alloc (by simp) (.cells (opC o' s') 33)
  have cS := from_below b0 (refSame_any s s' o.A o'.A _ (hA.below b0) (hB.below b0) (by omega) (by omega))
  obtain ⟨pa, ca, rfl, _⟩ := hA.val
  obtain ⟨pb, cb, rfl, _⟩ := hB.val
  obtain ⟨k, t, ⟨x, n, u⟩, c, A⟩ := o
  obtain ⟨k', t', ⟨x', n', u'⟩, c', A'⟩ := o'
  simp only at cS
  simp only [opC] at b0 cS
  clear hA hB hl hl2
  have gd := fun op e e' w => guard_pl op e e' (x, n, u) (x', n', u') w
  by_cases hk : k = k'
  · subst hk
    by_cases ht : t = t'
    · subst ht
      have q1 := beq_key (x := t) (y := t) true (decide_eq_true rfl)
      by_cases hv : ((x, n, u) : P3) = (x', n', u')
      · have hne := eql_pl (x, n, u) (x', n', u') true (by rw [hv, samP_self])
        by_cases hc : c = c'
        · subst hc
          have hd : decide (({ k := k, t := t, v := (x, n, u), c := c, A := A } : Op5) = { k := k, t := t, v := (x', n', u'), c := c, A := A' }) = decide (A = A') := by
            simp only [Op5.mk.injEq, true_and, hv]
          rw [hd]
          generalize decide (A = A') = R at cS ⊢
          clear hd hv
          go_enter Tryz.func96, Tryz.ntmps96
          go_wp2_with fail
          refine cS.mono ?_; rintro r w2 ⟨rfl, hb2⟩
          go_wp2
          go_ret
          exact ⟨rfl, hb2⟩
        · rw [decide_eq_false (by intro e; exact hc (congrArg Op5.c e))]
          have hcc : (c == c') = false := by simpa using hc
          clear cS hv hc
          go_enter Tryz.func96, Tryz.ntmps96
          go_wp2
          go_ret
          exact ⟨rfl, b0⟩
      · rw [decide_eq_false (by intro e; exact hv (congrArg Op5.v e))]
        have hne := eql_pl (x, n, u) (x', n', u') false (samP_ne hv)
        clear cS hv
        go_enter Tryz.func96, Tryz.ntmps96
        go_wp2
        go_ret
        exact ⟨rfl, b0⟩
    · rw [decide_eq_false (by intro e; exact ht (congrArg Op5.t e))]
      have q1 := beq_key (x := t) (y := t') false (decide_eq_false ht)
      clear cS ht gd
      go_enter Tryz.func96, Tryz.ntmps96
      go_wp2
      go_ret
      exact ⟨rfl, b0⟩
  · rw [decide_eq_false (by intro e; exact hk (congrArg Op5.k e))]
    have hkk : (k == k') = false := by simpa using hk
    clear cS hk gd
    go_enter Tryz.func96, Tryz.ntmps96
    go_wp2
    go_ret
    exact ⟨rfl, b0⟩

set_option maxHeartbeats 2000000 in
set_option maxRecDepth 100000 in
theorem same6_any (v v' : Value) (E E' : List Op5) (w : World) (h : ReO w v E) (h' : ReO w v' E') (hl : E.length ≤ 2097152) (hl' : E'.length ≤ 2097152) (hA : ∀ e ∈ E, e.A.length ≤ 1048576) (hA' : ∀ e ∈ E', e.A.length ≤ 1048576) :
    Calls Tryz.prog 62 #[v, v'] w fun r w' => r = .returned (.bool (decide (E = E'))) ∧ Below w.heap.size w w' := by
  obtain ⟨D, hrow, hre⟩ := h
  obtain ⟨D', hrow', hre'⟩ := h'
  have hE := forall2_len hre
  have hE' := forall2_len hre'
  obtain ⟨n, hn⟩ : ∃ n, D.length = n := ⟨_, rfl⟩
  obtain ⟨m, hm⟩ : ∃ m, D'.length = m := ⟨_, rfl⟩
  obtain ⟨pa, ca, rfl, ha, _, hca⟩ := hrow
  obtain ⟨pb, cb, rfl, hb, _, hcb⟩ := hrow'
  rw [hn] at ha hE ⊢
  rw [hm] at hb hE' ⊢
  have HN : Hid (D.length = n ∧ D'.length = m ∧ E.length = n ∧ E'.length = m) := ⟨hn, hm, hE.symm, hE'.symm⟩
  by_cases hnm : n = m
  · subst hnm
    have HA : Hid (∀ (j : Nat) (d : OV), D[j]? = some d → ∃ b off, pa = some ⟨b, off, none⟩ ∧ OpAt w b (off + j * 7) d) := hca
    have HB : Hid (∀ (j : Nat) (d : OV), D'[j]? = some d → ∃ b off, pb = some ⟨b, off, none⟩ ∧ OpAt w b (off + j * 7) d) := hcb
    have hl : n ≤ 2097152 := by omega
    have CC : Hid (∀ (k : Nat) d d', D[k]? = some d → D'[k]? = some d' → ∃ e e', E[k]? = some e ∧ E'[k]? = some e' ∧ ∀ W, Below w.heap.size w W → Calls Tryz.prog 96 #[ovV d, ovV d'] W fun r w' => r = .returned (.bool (decide (e = e'))) ∧ Below W.heap.size W w') := fun k d d' h1 h2 => by
      obtain ⟨y, hy, r1⟩ := forall2_get hre k d h1
      obtain ⟨y', hy', r2⟩ := forall2_get hre' k d' h2
      refine ⟨y, y', hy, hy', fun W hW => ?_⟩
      rw [opV_of r1, opV_of r2]
      have h3 := hA y (List.mem_of_getElem? hy)
      have h4 := hA' y' (List.mem_of_getElem? hy')
      exact same6o_any y y' _ _ W (r1.2.2.2.2.below hW).row (r2.2.2.2.2.below hW).row (by omega) (by omega)
    clear hca hcb hn hm hre hre' hE hE' hA hA' hl'
    go_enter Tryz.func62, Tryz.ntmps62
    go_wp2
    go_loopw [13] (fun i wr => ∃ (k : Nat), k ≤ n ∧ i = .int .i64 k ∧ Hid (E.take k = E'.take k) ∧ Below w.heap.size w wr) (fun i _ => n - (RowKit.intOf i).toNat)
    case atStart => exact ⟨0, Nat.zero_le _, rfl, rfl, Below.refl _ _⟩
    case round =>
      obtain ⟨k, hk, rfl, HT, hbw⟩ := hrel
      by_cases hlt : k < n
      · have hltI : (k : Int) < n := by omega
        obtain ⟨d, hd⟩ : ∃ q, D[k]? = some q := ⟨_, List.getElem?_eq_getElem (by rw [HN.out.1]; exact hlt)⟩
        obtain ⟨d', hd'⟩ : ∃ q, D'[k]? = some q := ⟨_, List.getElem?_eq_getElem (by rw [HN.out.2.1]; exact hlt)⟩
        obtain ⟨e, e', he, he', cc⟩ := CC.out k d d' hd hd'
        obtain ⟨b, off, rfl, hin⟩ := HA.out k d hd
        obtain ⟨b', off', rfl, hin'⟩ := HB.out k d' hd'
        obtain ⟨c0, c1, c2, c3, c4, c5, c6⟩ := hin.below hbw
        obtain ⟨d0, d1, d2, d3, d4, d5, d6⟩ := hin'.below hbw
        have HEE : Hid (E[k]? = some e ∧ E'[k]? = some e') := ⟨he, he'⟩
        clear hin hin' hd hd' he he'
        obtain ⟨f, t, ⟨x, z, u⟩, cc1, p, j, c⟩ := d
        obtain ⟨f', t', ⟨x', z', u'⟩, cc1', p', j', c'⟩ := d'
        simp only [slV] at c0 c1 c2 c3 c4 c5 c6 d0 d1 d2 d3 d4 d5 d6
        simp only [ovV, ovC, slV] at cc
        have HU : Hid (∀ w', Below wr.drew.heap.size wr.drew w' → (w'.cell? ⟨b, off + k * 7, none⟩ = some (.int .i64 f) ∧ w'.cell? ⟨b, off + k * 7 + 1, none⟩ = some (.string t) ∧ w'.cell? ⟨b, off + k * 7 + 2, none⟩ = some (.int .i64 x) ∧ w'.cell? ⟨b, off + k * 7 + 3, none⟩ = some (.int .i64 z) ∧ w'.cell? ⟨b, off + k * 7 + 4, none⟩ = some (.string u) ∧ w'.cell? ⟨b, off + k * 7 + 5, none⟩ = some (.int .i64 cc1) ∧ w'.cell? ⟨b, off + k * 7 + 6, none⟩ = some (.slice p j c) ∧ w'.cell? ⟨b', off' + k * 7, none⟩ = some (.int .i64 f') ∧ w'.cell? ⟨b', off' + k * 7 + 1, none⟩ = some (.string t') ∧ w'.cell? ⟨b', off' + k * 7 + 2, none⟩ = some (.int .i64 x') ∧ w'.cell? ⟨b', off' + k * 7 + 3, none⟩ = some (.int .i64 z') ∧ w'.cell? ⟨b', off' + k * 7 + 4, none⟩ = some (.string u') ∧ w'.cell? ⟨b', off' + k * 7 + 5, none⟩ = some (.int .i64 cc1') ∧ w'.cell? ⟨b', off' + k * 7 + 6, none⟩ = some (.slice p' j' c'))) := fun w' hb => ⟨(hb.cell (lt_of_cell (w := wr.drew) c0)).trans c0, (hb.cell (lt_of_cell (w := wr.drew) c1)).trans c1, (hb.cell (lt_of_cell (w := wr.drew) c2)).trans c2, (hb.cell (lt_of_cell (w := wr.drew) c3)).trans c3, (hb.cell (lt_of_cell (w := wr.drew) c4)).trans c4, (hb.cell (lt_of_cell (w := wr.drew) c5)).trans c5, (hb.cell (lt_of_cell (w := wr.drew) c6)).trans c6, (hb.cell (lt_of_cell (w := wr.drew) d0)).trans d0, (hb.cell (lt_of_cell (w := wr.drew) d1)).trans d1, (hb.cell (lt_of_cell (w := wr.drew) d2)).trans d2, (hb.cell (lt_of_cell (w := wr.drew) d3)).trans d3, (hb.cell (lt_of_cell (w := wr.drew) d4)).trans d4, (hb.cell (lt_of_cell (w := wr.drew) d5)).trans d5, (hb.cell (lt_of_cell (w := wr.drew) d6)).trans d6⟩
        have hz0 : w.heap.size ≤ wr.drew.heap.size := hbw.size
        obtain ⟨q, hq⟩ : ∃ q, decide (e = e') = q := ⟨_, rfl⟩
        rw [hq] at cc
        have HQ : Hid (decide (e = e') = q) := hq
        clear hq
        cases q with
        | true =>
          have HT2 : Hid (E.take (k + 1) = E'.take (k + 1)) := take_eq_snoc HT.out HEE.out.1 HEE.out.2 (of_decide_eq_true HQ.out)
          go_wp2_with fail
          go_region_held3 (fun w' => (w'.cell? ⟨b, off + k * 7, none⟩ = some (.int .i64 f) ∧ w'.cell? ⟨b, off + k * 7 + 1, none⟩ = some (.string t) ∧ w'.cell? ⟨b, off + k * 7 + 2, none⟩ = some (.int .i64 x) ∧ w'.cell? ⟨b, off + k * 7 + 3, none⟩ = some (.int .i64 z) ∧ w'.cell? ⟨b, off + k * 7 + 4, none⟩ = some (.string u) ∧ w'.cell? ⟨b, off + k * 7 + 5, none⟩ = some (.int .i64 cc1) ∧ w'.cell? ⟨b, off + k * 7 + 6, none⟩ = some (.slice p j c) ∧ w'.cell? ⟨b', off' + k * 7, none⟩ = some (.int .i64 f') ∧ w'.cell? ⟨b', off' + k * 7 + 1, none⟩ = some (.string t') ∧ w'.cell? ⟨b', off' + k * 7 + 2, none⟩ = some (.int .i64 x') ∧ w'.cell? ⟨b', off' + k * 7 + 3, none⟩ = some (.int .i64 z') ∧ w'.cell? ⟨b', off' + k * 7 + 4, none⟩ = some (.string u') ∧ w'.cell? ⟨b', off' + k * 7 + 5, none⟩ = some (.int .i64 cc1') ∧ w'.cell? ⟨b', off' + k * 7 + 6, none⟩ = some (.slice p' j' c')) ∧ Below w.heap.size w w')
            (exact ⟨by first | (with_reducible assumption) | (simp [*]; done), by first | (with_reducible assumption) | exact hbw.drew⟩)
            (first | (go_at_call 96; refine (cc _ ?_).mono ?_; (· first | assumption | exact hbw.drew | (apply And.right; assumption)); rintro r w3 ⟨rfl, b3⟩; have b4 : Below w.heap.size w w3 := (hbw.drew).trans (b3.mono hz0); have mm := HU.out _ b3))
          clear cc mm b3
          go_wp2
          go_roundw
          case rel => exact ⟨k + 1, by omega, by go_num, HT2, b4⟩
          case measure => simp [RowKit.intOf]; omega
        | false =>
          have hfin : Hid (decide (E = E') = false) := decide_eq_false (ne_at HEE.out.1 HEE.out.2 (of_decide_eq_false HQ.out))
          go_wp2_with fail
          go_region_held3 (fun w' => (w'.cell? ⟨b, off + k * 7, none⟩ = some (.int .i64 f) ∧ w'.cell? ⟨b, off + k * 7 + 1, none⟩ = some (.string t) ∧ w'.cell? ⟨b, off + k * 7 + 2, none⟩ = some (.int .i64 x) ∧ w'.cell? ⟨b, off + k * 7 + 3, none⟩ = some (.int .i64 z) ∧ w'.cell? ⟨b, off + k * 7 + 4, none⟩ = some (.string u) ∧ w'.cell? ⟨b, off + k * 7 + 5, none⟩ = some (.int .i64 cc1) ∧ w'.cell? ⟨b, off + k * 7 + 6, none⟩ = some (.slice p j c) ∧ w'.cell? ⟨b', off' + k * 7, none⟩ = some (.int .i64 f') ∧ w'.cell? ⟨b', off' + k * 7 + 1, none⟩ = some (.string t') ∧ w'.cell? ⟨b', off' + k * 7 + 2, none⟩ = some (.int .i64 x') ∧ w'.cell? ⟨b', off' + k * 7 + 3, none⟩ = some (.int .i64 z') ∧ w'.cell? ⟨b', off' + k * 7 + 4, none⟩ = some (.string u') ∧ w'.cell? ⟨b', off' + k * 7 + 5, none⟩ = some (.int .i64 cc1') ∧ w'.cell? ⟨b', off' + k * 7 + 6, none⟩ = some (.slice p' j' c')) ∧ Below w.heap.size w w')
            (exact ⟨by first | (with_reducible assumption) | (simp [*]; done), by first | (with_reducible assumption) | exact hbw.drew⟩)
            (first | (go_at_call 96; refine (cc _ ?_).mono ?_; (· first | assumption | exact hbw.drew | (apply And.right; assumption)); rintro r w3 ⟨rfl, b3⟩; have b4 : Below w.heap.size w w3 := (hbw.drew).trans (b3.mono hz0); have mm := HU.out _ b3))
          clear cc mm b3
          go_wp2
          go_ret
          exact ⟨by rw [hfin.out]; rfl, b4⟩
      · have hltI : ¬ (k : Int) < n := by omega
        have hfin : Hid (decide (E = E') = true) := decide_eq_true (by
          have := HT.out
          rwa [List.take_of_length_le (by rw [HN.out.2.2.1]; omega), List.take_of_length_le (by rw [HN.out.2.2.2]; omega)] at this)
        go_wp2
        go_ret
        exact ⟨by rw [hfin.out]; rfl, hbw⟩
  · have hne : ((n : Int) != m) = true := by simp; omega
    have hfin : Hid (decide (E = E') = false) := decide_eq_false (fun h => hnm (by rw [← HN.out.2.2.1, ← HN.out.2.2.2, h]))
    clear hca hcb hn hm hre hre' hE hE' hA hA' hnm HN hl hl'
    go_enter Tryz.func62, Tryz.ntmps62
    go_wp2
    go_ret
    exact ⟨by rw [hfin.out]; rfl, Below.refl _ _⟩

set_option maxHeartbeats 1000000 in
theorem ins6_any (o : Op5) (p : Option Addr) (l c : Nat) (w : World) : Calls Tryz.prog 49 #[opV o (.slice p l c)] w fun r w' => r = .returned (.bool (decide (o.k = 1 ∨ o.k = 2))) ∧ Below w.heap.size w w' := by
  obtain ⟨k, t, ⟨x, n, u⟩, cc, A⟩ := o
  simp only
  by_cases k1 : k = 1
  · subst k1
    rw [decide_eq_true (Or.inl rfl)]
    go_enter Tryz.func49, Tryz.ntmps49
    go_wp2
    go_ret
    exact ⟨rfl, by go_grown⟩
  · have e1 : (k == 1) = false := by simpa using k1
    by_cases k2 : k = 2
    · subst k2
      rw [decide_eq_true (Or.inr rfl)]
      go_enter Tryz.func49, Tryz.ntmps49
      go_wp2
      go_ret
      exact ⟨rfl, by go_grown⟩
    · have e2 : (k == 2) = false := by simpa using k2
      rw [decide_eq_false (by omega)]
      go_enter Tryz.func49, Tryz.ntmps49
      go_wp2
      go_ret
      exact ⟨rfl, by go_grown⟩
end Go.Proofs.YthfpmhnnjjikcaaGreatDoor

/- The document's deltas: push: an operation put behind others. -/
namespace Go.Proofs.YthfpmhnnjjikcaaGreatDoor
open Go Go.RowKit Go.Lib
set_option linter.unusedVariables false

/-- An operation in memory, its fields those of e. -/
abbrev FldE (d : OV) (e : Op5) : Prop := d.1 = e.k ∧ d.2.1 = e.t ∧ d.2.2.1 = e.v ∧ d.2.2.2.1 = e.c
/-- The cells of a row, one operation of it with another text and count. -/
theorem cellsO_set (F : List OV) (d : OV) (t : ByteArray) (c : Int) : ((cellsO (F ++ [d])).set (F.length * 7 + 1) (.string t)).set (F.length * 7 + 5) (.int .i64 c) = cellsO (F ++ [(d.1, t, d.2.2.1, c, d.2.2.2.2)]) := by
  rw [cellsO_append, cellsO_append]
  have hl := cellsO_len F
  rw [List.set_append_right _ _ (by omega), List.set_append_right _ _ (by omega), hl]
  rw [show F.length * 7 + 1 - F.length * 7 = 1 by omega, show F.length * 7 + 5 - F.length * 7 = 5 by omega]
  simp [cellsO]
theorem own_joinO {w : World} {B g cap : Nat} {F : List OV} {d : OV} (h : OwnO w B (.slice (some ⟨g, 0, none⟩) (F.length + 1) cap) (F ++ [d])) (t : ByteArray) (c : Int) :
    OwnO ((w.setCell ⟨g, F.length * 7 + 1, none⟩ (.string t)).setCell ⟨g, F.length * 7 + 5, none⟩ (.int .i64 c)) B (.slice (some ⟨g, 0, none⟩) (F.length + 1) cap) (F ++ [(d.1, t, d.2.2.1, c, d.2.2.2.2)]) := by
  have h' : w.ownsRow B 33 7 (.slice (some ⟨g, 0, none⟩) (F.length + 1) cap) (F.length + 1) (cellsO (F ++ [d])) := by
    have := h
    unfold OwnO at this
    rw [List.length_append] at this
    exact this
  have h1 := (h'.stored (F.length * 7 + 1) (.string t)).1
  have h2 := (h1.stored (F.length * 7 + 5) (.int .i64 c)).1
  rw [cellsO_set] at h2
  show World.ownsRow _ _ _ _ _ _ _
  rw [List.length_append]
  exact h2
/-- But for one row's block the memory stands. -/
structure Row1 (v : Value) (w w' : World) : Prop where
  os : w'.os = w.os
  tape : w'.tape = w.tape
  output : w'.output = w.output
  size : w.heap.size ≤ w'.heap.size
  block : ∀ k, k < w.heap.size → v.ownBlock ≠ some k → w'.heap[k]? = w.heap[k]?
theorem Row1.of_below {v : Value} {w w' : World} (h : Below w.heap.size w w') : Row1 v w w' := ⟨h.os, h.tape, h.output, h.size, fun k hk _ => h.block k hk⟩
theorem Row1.grown {v : Value} {a w w' : World} (h : Row1 v a w) (g : w.grownBy w' v.ownBlock) : Row1 v a w' :=
  ⟨g.os.trans h.os, g.tape.trans h.tape, g.output.trans h.output, Nat.le_trans h.size g.size, fun k hk hn => (g.block k (Nat.lt_of_lt_of_le hk h.size) (fun e => hn e.symm)).trans (h.block k hk hn)⟩
theorem Row1.setCell {v : Value} {a w : World} (h : Row1 v a w) {g : Nat} (hg : v.ownBlock = some g) (j : Nat) (u : Value) : Row1 v a (w.setCell ⟨g, j, none⟩ u) :=
  ⟨h.os, h.tape, h.output, by simpa [World.setCell] using h.size, fun k hk hn => (Below.heap_setCell _ _ _ _ (by intro e; obtain rfl : k = g := e; exact hn hg)).trans (h.block k hk hn)⟩
theorem Row1.drew {v : Value} {a w : World} (h : Row1 v a w) : Row1 v a w.drew := ⟨h.os, h.tape, h.output, h.size, h.block⟩
theorem Row1.below {v : Value} {w w' : World} {B : Nat} (h : Row1 v w w') (hB : B ≤ w.heap.size) (hv : ∀ k, v.ownBlock = some k → B ≤ k) : Below B w w' :=
  ⟨h.os, h.tape, h.output, h.size, fun k hk => h.block k (by omega) (fun e => by have := hv k e; omega)⟩
/-- What push answers: the row grown. -/
abbrev PushR (w0 : World) (B : Nat) (w w' : World) (v : Value) (e : Ending) (P : List Op5) : Prop := ∃ v' D', e = .returned v' ∧ OwnO w' B v' D' ∧ ReD w0 D' P ∧ Row1 v w w' ∧ (v'.ownBlock = v.ownBlock ∨ ∃ k, v'.ownBlock = some k ∧ w.heap.size ≤ k)

theorem Hid.mk' {p : Prop} (h : p) : Hid p := h
/-- What append finds behind the first region, from whatever world. -/
theorem push6_tail {w0 w : World} {B : Nat} {v : Value} {D : List OV} {P : List Op5} {o : Op5} {sp : Option Addr} {sl sc : Nat} (hB : B ≤ w.heap.size) (hw : Below w0.heap.size w0 w) (hv : OwnO w B v D) (hD : ReD w0 D P) (ho : RN w0 (.slice sp sl sc) o.A) (W1 : World) (h1 : Below w.heap.size w W1) :
    OwnO (W1.alloc (.cells (opC o (.slice sp sl sc)) 33)) B v D ∧ OpAt (W1.alloc (.cells (opC o (.slice sp sl sc)) 33)) W1.heap.size 0 (o.k, o.t, o.v, o.c, (sp, sl, sc)) ∧ B ≤ (W1.alloc (.cells (opC o (.slice sp sl sc)) 33)).heap.size ∧
      ∀ v8 w8, OwnO w8 B v8 (D ++ [(o.k, o.t, o.v, o.c, (sp, sl, sc))]) → (W1.alloc (.cells (opC o (.slice sp sl sc)) 33)).grownBy w8 v.ownBlock → (v8.ownBlock = v.ownBlock ∨ v8.ownBlock = some (W1.alloc (.cells (opC o (.slice sp sl sc)) 33)).heap.size) → PushR w0 B w w8 v (.returned v8) (P ++ [o]) := by
  have b1 : Below w.heap.size w (W1.alloc (.cells (opC o (.slice sp sl sc)) 33)) := h1.alloc h1.size _
  refine ⟨owns_below hv b1, ?_, Nat.le_trans hB b1.size, fun v8 w8 h2 h3 h4 => ⟨v8, _, rfl, h2, forall2_append hD (.cons ⟨rfl, rfl, rfl, rfl, ho⟩ .nil), (Row1.of_below b1).grown h3, h4.imp id (fun e => ⟨_, e, b1.size⟩)⟩⟩
  refine ⟨?_, ?_, ?_, ?_, ?_, ?_, ?_⟩ <;> simp [opC]
set_option maxHeartbeats 4000000 in
set_option maxRecDepth 100000 in
theorem push6_nil {w0 : World} {B : Nat} (v : Value) (D : List OV) (P : List Op5) (o : Op5) (sp : Option Addr) (sl sc : Nat) (w : World) (hB : B ≤ w.heap.size) (hw : Below w0.heap.size w0 w) (hv : OwnO w B v D) (hD : ReD w0 D P) (ho : RN w0 (.slice sp sl sc) o.A) (hl : P.length ≤ 8388608) (hP : P = []) :
    Calls Tryz.prog 50 #[v, opV o (.slice sp sl sc)] w fun e w' => PushR w0 B w w' v e (P ++ [o]) := by
  have hlen := forall2_len hD
  have ba : Below w.heap.size w (w.alloc (.cells (opC o (.slice sp sl sc)) 33)) := (Below.refl _ _).alloc (Nat.le_refl _) _
  have hl33 : D.length ≤ 33554432 := by omega
  have HT : Hid _ := fun W1 h1 => push6_tail hB hw hv hD ho W1 h1
  subst hP
  have hD0 : D = [] := List.eq_nil_of_length_eq_zero (by simpa using hlen)
  subst hD0
  obtain ⟨p, cap, e⟩ := own_slice hv
  obtain rfl : v = .slice p 0 cap := e
  obtain ⟨k, t, ⟨xx, n, u⟩, cc, A⟩ := o
  have HT' : Hid (∀ W1, Below w.heap.size w W1 → _) := HT
  simp only [opC] at ba
  have hba : ∀ q, Below w.heap.size w ((w.alloc (.cells #[.int .i64 k, .string t, .int .i64 xx, .int .i64 n, .string u, .int .i64 cc, .slice sp sl sc] 33)).drewN q) := fun q => below_drewN ba q
  have HBA : Hid (∀ q, Below w.heap.size w ((w.alloc (.cells #[.int .i64 k, .string t, .int .i64 xx, .int .i64 n, .string u, .int .i64 cc, .slice sp sl sc] 33)).drewN q)) := hba
  have HO2 : Hid (∀ q, OpAt (((w.alloc (.cells #[.int .i64 k, .string t, .int .i64 xx, .int .i64 n, .string u, .int .i64 cc, .slice sp sl sc] 33)).drewN q).alloc (.cells #[.int .i64 k, .string t, .int .i64 xx, .int .i64 n, .string u, .int .i64 cc, .slice sp sl sc] 33)) (w.heap.size + 1) 0 (k, t, (xx, n, u), cc, sp, sl, sc)) := fun q => by
    have h := (HT'.out _ (HBA.out q)).2.1
    have e : ((w.alloc (.cells #[.int .i64 k, .string t, .int .i64 xx, .int .i64 n, .string u, .int .i64 cc, .slice sp sl sc] 33)).drewN q).heap.size = w.heap.size + 1 := by show (w.alloc _).heap.size = _; simp
    rw [e] at h
    exact h
  clear hv hD ho hlen ba hw hB HT hl hba
  go_enter Tryz.func50, Tryz.ntmps50
  go_wp2
  go_quiet (fail)
  go_wp2_with (at_builtin; refine wpList_append_ops rfl (.tmp 38) (.tmp 40) rfl B (.slice p 0 cap) [] rfl (HT'.out _ (HBA.out _)).1 _ 1 _ rfl (HO2.out _) hl33 (HT'.out _ (HBA.out _)).2.2.1 ?_; intro v8 w8 own8 gr8 hat8; have HQ : Hid (PushR w0 B w w8 (.slice p 0 cap) (.returned v8) ([] ++ [_])) := (HT'.out _ (HBA.out _)).2.2.2 v8 w8 own8 gr8 hat8; clear own8 gr8 hat8 HT' HBA HO2)
  go_ret
  exact HQ.out
set_option maxHeartbeats 4000000 in
set_option maxRecDepth 100000 in
theorem push6_kind {w0 : World} {B : Nat} (v : Value) (D : List OV) (P : List Op5) (o : Op5) (sp : Option Addr) (sl sc : Nat) (w : World) (hB : B ≤ w.heap.size) (hw : Below w0.heap.size w0 w) (hv : OwnO w B v D) (hD : ReD w0 D P) (ho : RN w0 (.slice sp sl sc) o.A) (hl : P.length ≤ 8388608) (F : List Op5) (x : Op5) (hP : P = F ++ [x]) (hx : x.k ≠ o.k ∨ o.k = 2) :
    Calls Tryz.prog 50 #[v, opV o (.slice sp sl sc)] w fun e w' => PushR w0 B w w' v e (P ++ [o]) := by
  have hlen := forall2_len hD
  have ba : Below w.heap.size w (w.alloc (.cells (opC o (.slice sp sl sc)) 33)) := (Below.refl _ _).alloc (Nat.le_refl _) _
  have hl33 : D.length ≤ 33554432 := by omega
  have HT : Hid _ := fun W1 h1 => push6_tail hB hw hv hD ho W1 h1
  subst hP
  obtain ⟨FD, d, rfl, hFD, hxd⟩ : ∃ FD d, D = FD ++ [d] ∧ ReD w0 FD F ∧ ((d.1 = x.k ∧ d.2.1 = x.t ∧ d.2.2.1 = x.v ∧ d.2.2.2.1 = x.c) ∧ RN w0 (slV d.2.2.2.2) x.A) := by
    rcases List.eq_nil_or_concat D with rfl | ⟨FD, d, rfl⟩
    · have := forall2_len hD; simp at this
    · rw [List.concat_eq_append] at hD ⊢
      have hl' : FD.length = F.length := by have := forall2_len hD; simpa using this
      obtain ⟨h1, h2⟩ := forall2_unappend hl' hD
      cases h2 with
      | cons a _ => exact ⟨FD, d, rfl, h1, ⟨a.1, a.2.1, a.2.2.1, a.2.2.2.1⟩, a.2.2.2.2⟩
  obtain ⟨⟨f1, f2, f3, f4⟩, hrx⟩ := hxd
  have hFl := forall2_len hFD
  obtain ⟨g, cap, rfl⟩ : ∃ g cap, v = .slice (some ⟨g, 0, none⟩) (FD.length + 1) cap := by
    rcases hv.2 with ⟨_, h0⟩ | ⟨g, cap, cur, e, _⟩
    · simp at h0
    · exact ⟨g, cap, by rw [e]; simp⟩
  have hv2 : w.ownsRow B 33 7 (.slice (some ⟨g, 0, none⟩) (FD.length + 1) cap) (FD.length + 1) (cellsO (FD ++ [d])) := by
    have h := hv
    unfold OwnO at h
    rw [show (FD ++ [d]).length = FD.length + 1 by simp] at h
    exact h
  have hat := own_opAt hv2 FD.length d (by simp)
  rw [Nat.zero_add] at hat
  obtain ⟨m, hm⟩ : ∃ m, FD.length = m := ⟨_, rfl⟩
  have c0 := hat.c0
  rw [f1] at c0
  rw [hm] at c0 HT ⊢
  obtain ⟨xk, hxk⟩ : ∃ z, x.k = z := ⟨_, rfl⟩
  rw [hxk] at c0 hx
  obtain ⟨k, t, ⟨xx, n, u⟩, cc, A⟩ := o
  have HT' : Hid (∀ W1, Below w.heap.size w W1 → _) := HT
  simp only [opC] at ba hx
  have c0' : (w.alloc (.cells #[.int .i64 k, .string t, .int .i64 xx, .int .i64 n, .string u, .int .i64 cc, .slice sp sl sc] 33)).cell? ⟨g, m * 7, none⟩ = some (.int .i64 xk) := (ba.cell (lt_of_cell c0)).trans c0
  have hgw : g < w.heap.size := lt_of_cell c0
  have hne : ¬ g = w.heap.size := by omega
  have HBA : Hid (∀ q, Below w.heap.size w ((w.alloc (.cells #[.int .i64 k, .string t, .int .i64 xx, .int .i64 n, .string u, .int .i64 cc, .slice sp sl sc] 33)).drewN q)) := fun q => below_drewN ba q
  have HO2 : Hid (∀ q, OpAt (((w.alloc (.cells #[.int .i64 k, .string t, .int .i64 xx, .int .i64 n, .string u, .int .i64 cc, .slice sp sl sc] 33)).drewN q).alloc (.cells #[.int .i64 k, .string t, .int .i64 xx, .int .i64 n, .string u, .int .i64 cc, .slice sp sl sc] 33)) (w.heap.size + 1) 0 (k, t, (xx, n, u), cc, sp, sl, sc)) := fun q => by
    have h := (HT'.out _ (HBA.out q)).2.1
    have e : ((w.alloc (.cells #[.int .i64 k, .string t, .int .i64 xx, .int .i64 n, .string u, .int .i64 cc, .slice sp sl sc] 33)).drewN q).heap.size = w.heap.size + 1 := by show (w.alloc _).heap.size = _; simp
    rw [e] at h
    exact h
  have hz : (((m : Int) + 1) == 0) = false := by rw [beq_eq_false_iff_ne]; omega
  have hd1 : ((m : Int) + 1) - 1 = (m : Int) := by omega
  have hmz : (0 : Int) ≤ (m : Int) := by omega
  have hml : m ≤ 8388608 := by simp at hl; omega
  have hmlt : (m : Int) < (m : Int) + 1 := by omega
  clear hv hD ho hlen ba hw hB HT hl hv2 hat hFD hFl f1 f2 f3 f4 hrx hm hxk c0
  by_cases hk : xk = k
  · obtain rfl : k = 2 := hx.resolve_left (fun h => h hk)
    subst hk
    go_enter Tryz.func50, Tryz.ntmps50
    go_wp2
    go_quiet (fail)
    go_wp2_with (at_builtin; refine wpList_append_ops rfl (.tmp 38) (.tmp 40) rfl B _ (FD ++ [d]) rfl (HT'.out _ (HBA.out _)).1 _ 1 _ rfl (HO2.out _) hl33 (HT'.out _ (HBA.out _)).2.2.1 ?_; intro v8 w8 own8 gr8 hat8; have HQ := Hid.mk' ((HT'.out _ (HBA.out _)).2.2.2 v8 w8 own8 gr8 hat8); clear own8 gr8 hat8 HT' HBA HO2)
    go_ret
    exact HQ.out
  · have hkb : (xk != k) = true := by simpa using hk
    clear hx hk
    go_enter Tryz.func50, Tryz.ntmps50
    go_wp2
    go_quiet (fail)
    go_wp2_with (at_builtin; refine wpList_append_ops rfl (.tmp 38) (.tmp 40) rfl B _ (FD ++ [d]) rfl (HT'.out _ (HBA.out _)).1 _ 1 _ rfl (HO2.out _) hl33 (HT'.out _ (HBA.out _)).2.2.1 ?_; intro v8 w8 own8 gr8 hat8; have HQ := Hid.mk' ((HT'.out _ (HBA.out _)).2.2.2 v8 w8 own8 gr8 hat8); clear own8 gr8 hat8 HT' HBA HO2)
    go_ret
    exact HQ.out
set_option maxHeartbeats 4000000 in
set_option maxRecDepth 100000 in
theorem push6_same {w0 : World} {B : Nat} (v : Value) (D : List OV) (P : List Op5) (o : Op5) (sp : Option Addr) (sl sc : Nat) (w : World) (hB : B ≤ w.heap.size) (hw : Below w0.heap.size w0 w) (hv : OwnO w B v D) (hD : ReD w0 D P) (ho : RN w0 (.slice sp sl sc) o.A) (hl : P.length ≤ 8388608) (F : List Op5) (x : Op5) (hP : P = F ++ [x]) (hx : x.k = o.k) (h2 : o.k ≠ 2) (hn1 : x.A.length ≤ 2097152) (hn2 : o.A.length ≤ 2097152) (hsz : x.t.size + o.t.size ≤ 16777216) (hcc : 0 ≤ x.c ∧ 0 ≤ o.c ∧ x.c + o.c ≤ 4398046511104) :
    Calls Tryz.prog 50 #[v, opV o (.slice sp sl sc)] w fun e w' => PushR w0 B w w' v e (if x.A = o.A then F ++ [jnO x o] else P ++ [o]) := by
  have hlen := forall2_len hD
  have ba : Below w.heap.size w (w.alloc (.cells (opC o (.slice sp sl sc)) 33)) := (Below.refl _ _).alloc (Nat.le_refl _) _
  have hl33 : D.length ≤ 33554432 := by omega
  have HT : Hid _ := fun W1 h1 => push6_tail hB hw hv hD ho W1 h1
  subst hP
  obtain ⟨FD, d, rfl, hFD, hxd⟩ : ∃ FD d, D = FD ++ [d] ∧ ReD w0 FD F ∧ ((d.1 = x.k ∧ d.2.1 = x.t ∧ d.2.2.1 = x.v ∧ d.2.2.2.1 = x.c) ∧ RN w0 (slV d.2.2.2.2) x.A) := by
    rcases List.eq_nil_or_concat D with rfl | ⟨FD, d, rfl⟩
    · have := forall2_len hD; simp at this
    · rw [List.concat_eq_append] at hD ⊢
      have hl' : FD.length = F.length := by have := forall2_len hD; simpa using this
      obtain ⟨h1, h2⟩ := forall2_unappend hl' hD
      cases h2 with
      | cons a _ => exact ⟨FD, d, rfl, h1, ⟨a.1, a.2.1, a.2.2.1, a.2.2.2.1⟩, a.2.2.2.2⟩
  obtain ⟨⟨f1, f2, f3, f4⟩, hrx⟩ := hxd
  have hFl := forall2_len hFD
  obtain ⟨g, cap, rfl⟩ : ∃ g cap, v = .slice (some ⟨g, 0, none⟩) (FD.length + 1) cap := by
    rcases hv.2 with ⟨_, h0⟩ | ⟨g, cap, cur, e, _⟩
    · simp at h0
    · exact ⟨g, cap, by rw [e]; simp⟩
  have hv2 : w.ownsRow B 33 7 (.slice (some ⟨g, 0, none⟩) (FD.length + 1) cap) (FD.length + 1) (cellsO (FD ++ [d])) := by
    have h := hv
    unfold OwnO at h
    rw [show (FD ++ [d]).length = FD.length + 1 by simp] at h
    exact h
  have hat := own_opAt hv2 FD.length d (by simp)
  rw [Nat.zero_add] at hat
  obtain ⟨m, hm⟩ : ∃ m, FD.length = m := ⟨_, rfl⟩
  have CS : Hid (∀ W, Below w.heap.size w W → Calls Tryz.prog 91 #[slV d.2.2.2.2, .slice sp sl sc] W fun r w' => r = .returned (.bool (decide (x.A = o.A))) ∧ Below W.heap.size W w') := fun W hW => refSame_any _ _ x.A o.A W ((hrx.below hw).below hW).row ((ho.below hw).below hW).row (by omega) (by omega)
  have HJ : Hid (x.A = o.A → ∀ W, Below w.heap.size w W → PushR w0 B w ((W.setCell ⟨g, m * 7 + 1, none⟩ (.string (x.t ++ o.t))).setCell ⟨g, m * 7 + 5, none⟩ (.int .i64 (x.c + o.c))).drew.drew (.slice (some ⟨g, 0, none⟩) (FD.length + 1) cap) (.returned (.slice (some ⟨g, 0, none⟩) (FD.length + 1) cap)) (F ++ [jnO x o]) ∧ W.frozen? ⟨g, m * 7 + 1, none⟩ = false ∧ W.frozen? ⟨g, m * 7 + 5, none⟩ = false) := fun hA W hW => by
    have hvW : OwnO W B (.slice (some ⟨g, 0, none⟩) (FD.length + 1) cap) (FD ++ [d]) := owns_below hv hW
    have hj := own_joinO hvW (x.t ++ o.t) (x.c + o.c)
    rw [hm] at hj
    obtain ⟨_, cur, hcur⟩ := owns_block hvW g rfl
    refine ⟨⟨.slice (some ⟨g, 0, none⟩) (FD.length + 1) cap, FD ++ [(d.1, x.t ++ o.t, d.2.2.1, x.c + o.c, d.2.2.2.2)], rfl, ?_, forall2_append hFD (.cons ⟨f1, rfl, f3, rfl, hrx⟩ .nil), ?_, Or.inl rfl⟩, frozen_of_heap hcur _, frozen_of_heap hcur _⟩
    · rw [hm]; exact hj
    · exact (((Row1.of_below hW).setCell rfl _ _).setCell rfl _ _).drew.drew
  have c0 := hat.c0
  have c1 := hat.c1
  have c5 := hat.c5
  have c6 := hat.c6
  rw [f1, hx] at c0
  rw [f2] at c1
  rw [f4] at c5
  rw [hm] at c0 c1 c5 c6 HT HJ ⊢
  obtain ⟨xt, hxt⟩ : ∃ z, x.t = z := ⟨_, rfl⟩
  obtain ⟨xc, hxc⟩ : ∃ z, x.c = z := ⟨_, rfl⟩
  rw [hxt] at c1 HJ hsz
  rw [hxc] at c5 HJ hcc
  obtain ⟨⟨xp, xl, xcap⟩, hxs⟩ : ∃ z, d.2.2.2.2 = z := ⟨_, rfl⟩
  rw [hxs] at c6 CS
  simp only [slV] at c6 CS
  obtain ⟨q, hq⟩ : ∃ q, decide (x.A = o.A) = q := ⟨_, rfl⟩
  rw [hq] at CS
  have HQ : Hid (decide (x.A = o.A) = q) := hq
  have hgw : g < w.heap.size := lt_of_cell c0
  obtain ⟨k, t, ⟨xx, n, u⟩, cc, A⟩ := o
  have HT' : Hid (∀ W1, Below w.heap.size w W1 → _) := HT
  simp only [opC] at ba
  simp only at hcc hsz h2 c0 HJ HQ ⊢
  obtain ⟨hc1, hc2, hc3⟩ := hcc
  have hz : (((m : Int) + 1) == 0) = false := by rw [beq_eq_false_iff_ne]; omega
  have hd1 : ((m : Int) + 1) - 1 = (m : Int) := by omega
  have hmz : (0 : Int) ≤ (m : Int) := by omega
  have hk2 : (k == 2) = false := by simpa using h2
  have hw1 : IntKind.i64.wrap (m : Int) = (m : Int) := IntWalk.i64_in _ (by simp at hl; omega)
  have hw2 : IntKind.i64.wrap ((m : Int) + 1 - 1) = (m : Int) := by rw [hd1]; exact hw1
  have hml : m ≤ 8388608 := by simp at hl; omega
  have hmlt : (m : Int) < (m : Int) + 1 := by omega
  obtain ⟨W1, hW1⟩ : ∃ W, W = w.alloc (.cells #[.int .i64 k, .string t, .int .i64 xx, .int .i64 n, .string u, .int .i64 cc, .slice sp sl sc] 33) := ⟨_, rfl⟩
  rw [← hW1] at ba
  have d0 : W1.cell? ⟨w.heap.size, 0, none⟩ = some (.int .i64 k) := by rw [hW1]; simp
  have d1 : W1.cell? ⟨w.heap.size, 1, none⟩ = some (.string t) := by rw [hW1]; simp
  have d2 : W1.cell? ⟨w.heap.size, 2, none⟩ = some (.int .i64 xx) := by rw [hW1]; simp
  have d3 : W1.cell? ⟨w.heap.size, 3, none⟩ = some (.int .i64 n) := by rw [hW1]; simp
  have d4 : W1.cell? ⟨w.heap.size, 4, none⟩ = some (.string u) := by rw [hW1]; simp
  have d5 : W1.cell? ⟨w.heap.size, 5, none⟩ = some (.int .i64 cc) := by rw [hW1]; simp
  have d6 : W1.cell? ⟨w.heap.size, 6, none⟩ = some (.slice sp sl sc) := by rw [hW1]; simp
  have e0 : W1.cell? ⟨g, m * 7, none⟩ = some (.int .i64 k) := (ba.cell (lt_of_cell c0)).trans c0
  have e1 : W1.cell? ⟨g, m * 7 + 1, none⟩ = some (.string xt) := (ba.cell (lt_of_cell c1)).trans c1
  have e5 : W1.cell? ⟨g, m * 7 + 5, none⟩ = some (.int .i64 xc) := (ba.cell (lt_of_cell c5)).trans c5
  have e6 : W1.cell? ⟨g, m * 7 + 6, none⟩ = some (.slice xp xl xcap) := (ba.cell (lt_of_cell c6)).trans c6
  have HU : Hid (∀ w', Below W1.drew.heap.size W1.drew w' → (w'.cell? ⟨g, m * 7, none⟩ = some (.int .i64 k) ∧ w'.cell? ⟨g, m * 7 + 1, none⟩ = some (.string xt) ∧ w'.cell? ⟨g, m * 7 + 5, none⟩ = some (.int .i64 xc) ∧ w'.cell? ⟨g, m * 7 + 6, none⟩ = some (.slice xp xl xcap)) ∧ (w'.cell? ⟨w.heap.size, 0, none⟩ = some (.int .i64 k) ∧ w'.cell? ⟨w.heap.size, 1, none⟩ = some (.string t) ∧ w'.cell? ⟨w.heap.size, 2, none⟩ = some (.int .i64 xx) ∧ w'.cell? ⟨w.heap.size, 3, none⟩ = some (.int .i64 n) ∧ w'.cell? ⟨w.heap.size, 4, none⟩ = some (.string u) ∧ w'.cell? ⟨w.heap.size, 5, none⟩ = some (.int .i64 cc) ∧ w'.cell? ⟨w.heap.size, 6, none⟩ = some (.slice sp sl sc))) := fun w' hb => ⟨⟨(hb.cell (lt_of_cell (w := W1.drew) e0)).trans e0, (hb.cell (lt_of_cell (w := W1.drew) e1)).trans e1, (hb.cell (lt_of_cell (w := W1.drew) e5)).trans e5, (hb.cell (lt_of_cell (w := W1.drew) e6)).trans e6⟩, (hb.cell (lt_of_cell (w := W1.drew) d0)).trans d0, (hb.cell (lt_of_cell (w := W1.drew) d1)).trans d1, (hb.cell (lt_of_cell (w := W1.drew) d2)).trans d2, (hb.cell (lt_of_cell (w := W1.drew) d3)).trans d3, (hb.cell (lt_of_cell (w := W1.drew) d4)).trans d4, (hb.cell (lt_of_cell (w := W1.drew) d5)).trans d5, (hb.cell (lt_of_cell (w := W1.drew) d6)).trans d6⟩
  have cs := CS.out W1.drew ba.drew
  have hne : ¬ g = w.heap.size := by omega
  have hne' : ¬ w.heap.size = g := by omega
  have hbs : w.heap.size ≤ W1.drew.heap.size := ba.size
  clear hv hD ho hlen hw hB HT hl hv2 hat hFD hFl f1 f2 f3 f4 hrx hm hxt hxc hxs hq CS c0 c1 c5 c6 h2 hx hn1 hn2
  go_enter Tryz.func50, Tryz.ntmps50
  go_upto_region 2 with fail
  rw [← hW1]
  clear hW1
  go_region_held3 (fun w' => ((w'.cell? ⟨g, m * 7, none⟩ = some (.int .i64 k) ∧ w'.cell? ⟨g, m * 7 + 1, none⟩ = some (.string xt) ∧ w'.cell? ⟨g, m * 7 + 5, none⟩ = some (.int .i64 xc) ∧ w'.cell? ⟨g, m * 7 + 6, none⟩ = some (.slice xp xl xcap)) ∧ (w'.cell? ⟨w.heap.size, 0, none⟩ = some (.int .i64 k) ∧ w'.cell? ⟨w.heap.size, 1, none⟩ = some (.string t) ∧ w'.cell? ⟨w.heap.size, 2, none⟩ = some (.int .i64 xx) ∧ w'.cell? ⟨w.heap.size, 3, none⟩ = some (.int .i64 n) ∧ w'.cell? ⟨w.heap.size, 4, none⟩ = some (.string u) ∧ w'.cell? ⟨w.heap.size, 5, none⟩ = some (.int .i64 cc) ∧ w'.cell? ⟨w.heap.size, 6, none⟩ = some (.slice sp sl sc))) ∧ Below w.heap.size w w')
    (exact ⟨by first | (with_reducible assumption) | (simp [*]; done), by first | (with_reducible assumption) | exact ba.drew⟩)
    (first | (go_at_call 91; refine cs.mono ?_; rintro r wD ⟨rfl, bD⟩; have jD : Below w.heap.size w wD := ba.drew.trans (bD.mono hbs); have mmD := HU.out _ bD))
  clear cs HU bD d0 d1 d2 d3 d4 d5 d6 e0 e1 e5 e6 ba
  obtain ⟨⟨e0, e1, e5, e6⟩, d0, d1, d2, d3, d4, d5, d6⟩ := mmD
  cases q with
  | true =>
    have hAA := of_decide_eq_true HQ.out
    obtain ⟨y1, y2, y3⟩ := HJ.out hAA wD jD
    have HY : Hid _ := y1
    have HAA := Hid.mk' hAA
    clear HJ HT' HQ hAA y1
    have e1d : wD.drew.cell? ⟨g, m * 7 + 1, none⟩ = some (.string xt) := e1
    go_wp2
    go_region
    all_goals go_wp2
    all_goals go_region
    all_goals go_wp2
    all_goals (go_ret; first | exact HY.out | (rw [if_pos HAA.out]; exact HY.out))
  | false =>
    have hAA := of_decide_eq_false HQ.out
    have HAA := Hid.mk' hAA
    have HBA : Hid (Below w.heap.size w wD) := jD
    clear HJ HQ hAA e0 e1 e5 e6 jD
    go_wp2_with (at_builtin; refine wpList_append_ops rfl (.tmp 38) (.tmp 40) rfl B _ (FD ++ [d]) rfl (HT'.out _ HBA.out).1 _ 1 _ rfl (HT'.out _ HBA.out).2.1 hl33 (HT'.out _ HBA.out).2.2.1 ?_; intro v8 w8 own8 gr8 hat8; have HQ := Hid.mk' ((HT'.out _ HBA.out).2.2.2 v8 w8 own8 gr8 hat8); clear own8 gr8 hat8 HT' HBA)
    go_ret
    have hq := HQ.out
    rw [List.append_assoc] at hq
    exact hq
end Go.Proofs.YthfpmhnnjjikcaaGreatDoor

/- The document's deltas: Canonical: the canonical list of operations. -/
namespace Go.Proofs.YthfpmhnnjjikcaaGreatDoor
open Go Go.RowKit Go.Lib
set_option linter.unusedVariables false

set_option maxHeartbeats 1000000 in
theorem plain6_any (o : Op5) (p : Option Addr) (l c : Nat) (w : World) (hl : l = o.A.length) : Calls Tryz.prog 51 #[opV o (.slice p l c)] w fun r w' => r = .returned (.bool (plainR o)) ∧ Below w.heap.size w w' := by
  have hp : plainR o = (o.k == 3 && decide (l = 0)) := by
    unfold plainR
    rw [hl]
    cases o.A <;> simp
  rw [hp]
  obtain ⟨k, t, ⟨x, n, u⟩, cc, A⟩ := o
  simp only
  clear hp hl
  by_cases k3 : k = 3
  · subst k3
    have hz : ((l : Int) == 0) = decide (l = 0) := by rw [Bool.eq_iff_iff]; simp
    go_enter Tryz.func51, Tryz.ntmps51
    go_wp2
    go_ret
    exact ⟨by simp, by go_grown⟩
  · have e3 : (k == 3) = false := by simpa using k3
    rw [e3]
    go_enter Tryz.func51, Tryz.ntmps51
    go_wp2
    go_ret
    exact ⟨rfl, by go_grown⟩
/-- push, whatever comes. -/
theorem push6_any {w0 : World} {B : Nat} (v : Value) (D : List OV) (P : List Op5) (o : Op5) (sp : Option Addr) (sl sc : Nat) (w : World) (hB : B ≤ w.heap.size) (hw : Below w0.heap.size w0 w) (hv : OwnO w B v D) (hD : ReD w0 D P) (ho : RN w0 (.slice sp sl sc) o.A) (hl : P.length ≤ 4194304) (hP : ∀ x ∈ P, Wel x ∧ x.A.length ≤ 2097152 ∧ x.t.size ≤ 8388608 ∧ x.c ≤ 2199023255552) (how : Wel o) (hn2 : o.A.length ≤ 2097152) (hot : o.t.size ≤ 8388608) (hoc : o.c ≤ 2199023255552) :
    Calls Tryz.prog 50 #[v, opV o (.slice sp sl sc)] w fun e w' => PushR w0 B w w' v e (pushL P o) := by
  rcases List.eq_nil_or_concat P with rfl | ⟨F, x, rfl⟩
  · exact push6_nil v D [] o sp sl sc w hB hw hv hD ho (by simp) rfl
  · rw [List.concat_eq_append] at hD hl hP ⊢
    obtain ⟨hx1, hx2, hx3, hx4⟩ := hP x (List.mem_append_right _ (List.mem_singleton.2 rfl))
    by_cases h1 : x.k ≠ o.k ∨ o.k = 2
    · rw [push_apart (by rcases h1 with h | h; exact Or.inl h; exact Or.inr (Or.inl h))]
      exact push6_kind v D _ o sp sl sc w hB hw hv hD ho (by omega) F x rfl h1
    · have hk : x.k = o.k := Decidable.byContradiction fun h => h1 (Or.inl h)
      have h2 : o.k ≠ 2 := fun h => h1 (Or.inr h)
      have hcx : 0 ≤ x.c := by
        rcases hx1.kinds with h | h | h | h
        · rw [(hx1.resolve_right (by rintro (⟨a, _⟩ | ⟨a, _⟩) <;> omega)).1.count]; omega
        · omega
        · have := hx1.count (Or.inl h); omega
        · have := hx1.count (Or.inr h); omega
      have hco : 0 ≤ o.c := by
        rcases how.kinds with h | h | h | h
        · rw [(how.resolve_right (by rintro (⟨a, _⟩ | ⟨a, _⟩) <;> omega)).1.count]; omega
        · omega
        · have := how.count (Or.inl h); omega
        · have := how.count (Or.inr h); omega
      have h := push6_same v D _ o sp sl sc w hB hw hv hD ho (by omega) F x rfl hk h2 hx2 hn2 (by omega) ⟨hcx, hco, by omega⟩
      by_cases hA : x.A = o.A
      · rw [if_pos hA] at h
        rw [push_join (by rintro (e | e | e); exact e hk; exact h2 e; exact e hA)]
        exact h
      · rw [if_neg hA] at h
        rw [push_apart (Or.inr (Or.inr hA))]
        exact h
end Go.Proofs.YthfpmhnnjjikcaaGreatDoor

/- The document's deltas: Len. -/
namespace Go.Proofs.YthfpmhnnjjikcaaGreatDoor
open Go Go.RowKit Go.Lib
set_option linter.unusedVariables false

set_option maxHeartbeats 2000000 in
set_option maxRecDepth 100000 in
theorem len6t_any (o : Op5) (p : Option Addr) (l c : Nat) (w : World) (hk : o.k = 1) (hu : brk o.t.data.toList = o.t.size) (ht : o.t.size ≤ 8388608) :
    Calls Tryz.prog 100 #[opV o (.slice p l c)] w fun r w' => r = .returned (.int .i64 (scs o.t.data.toList).length) ∧ Below w.heap.size w w' := by
  obtain ⟨k, t, ⟨x, z, u⟩, cc, A⟩ := o
  simp only at hk hu ht ⊢
  subst hk
  obtain ⟨h1, h2, h3⟩ := valid_text t hu
  obtain ⟨rs, hrs⟩ : ∃ rs, scs t.data.toList = rs := ⟨_, rfl⟩
  rw [hrs] at h1 h2 h3 ⊢
  obtain ⟨n, hnn⟩ : ∃ n, rs.length = n := ⟨_, rfl⟩
  rw [hnn] at h3 ⊢
  have HV : Hid (t.data.toList = encs rs) := h2
  have HN : Hid (rs.length = n) := hnn
  obtain ⟨W0, hW0⟩ : ∃ W, W = w.alloc (.cells #[.int .i64 1, .string t, .int .i64 x, .int .i64 z, .string u, .int .i64 cc, .slice p l c] 33) := ⟨_, rfl⟩
  have b0 : Below w.heap.size w W0 := by rw [hW0]; exact (Below.refl _ _).alloc (Nat.le_refl _) _
  have e0 : W0.cell? ⟨w.heap.size, 0, none⟩ = some (.int .i64 1) := by rw [hW0]; simp
  have e1 : W0.cell? ⟨w.heap.size, 1, none⟩ = some (.string t) := by rw [hW0]; simp
  have hit0 : (W0.iter t 0).heap[W0.heap.size]? = some (.stringIter t 0) := World.iter_heap W0 t 0
  have bi : Below W0.heap.size W0 (W0.iter t 0) := (Below.refl _ _).alloc (Nat.le_refl _) _
  have hbi : Below w.heap.size w (W0.iter t 0) := b0.trans (bi.mono b0.size)
  clear hu h2 hnn hrs
  go_enter Tryz.func100, Tryz.ntmps100
  go_upto_region 1 with fail
  rw [← hW0]
  clear hW0
  go_wp2
  obtain ⟨K, hKK⟩ : ∃ K, K = W0.heap.size := ⟨_, rfl⟩
  have hKw : w.heap.size ≤ K := by rw [hKK]; exact b0.size
  rw [← hKK] at hit0 ⊢
  obtain ⟨wi, hwi⟩ : ∃ wi, wi = W0.iter t 0 := ⟨_, rfl⟩
  rw [← hwi] at hit0 hbi ⊢
  clear hwi bi hKK b0 e0 e1
  go_loopw [3] (fun v wr => ∃ (i : Nat), i ≤ n ∧ v = .int .i64 i ∧ wr.heap[K]? = some (.stringIter t (pos rs i)) ∧ Below w.heap.size w wr) (fun _ wr => t.size - wr.iterPos K)
  case atStart => exact ⟨0, Nat.zero_le _, rfl, hit0, hbi⟩
  case round =>
    clear hit0 hbi
    obtain ⟨i, hin, rfl, hit, hbw⟩ := hrel
    by_cases hlt : i < n
    · obtain ⟨hd, hp⟩ := decode_pos t rs HV.out h1 i (by rw [HN.out]; exact hlt)
      have hps := pos_succ rs i (by rw [HN.out]; exact hlt)
      have hpl := enc_pos (h1 _ (List.getElem_mem (show i < rs.length by rw [HN.out]; exact hlt)))
      obtain ⟨R, hR⟩ : ∃ R, rs[i]'(by rw [HN.out]; exact hlt) = R := ⟨_, rfl⟩
      rw [hR] at hd hps hpl
      have hpq : pos rs i < pos rs (i + 1) := by omega
      have hnx : ∀ ty, (Instr.next (.pointer (some ⟨K, 0, none⟩)) true ty).run Tryz.prog wr = .ok (.tuple #[.bool true, .int .i64 (pos rs i), .int .i32 R]) (wr.iterAt K t (pos rs (i + 1))) := fun ty => by
        have := run_next_any_at (P := Tryz.prog) wr K t (pos rs i) ty hit hp
        rw [hd] at this
        rw [this, hps]
      have hit2 := iterAt_heap wr K t (pos rs i) (pos rs (i + 1)) hit
      have hbw2 := below_iterAt hbw hKw t (pos rs (i + 1))
      have hpos : wr.iterPos K = pos rs i := by simp [World.iterPos, hit]
      have hpos2 : (wr.iterAt K t (pos rs (i + 1))).iterPos K = pos rs (i + 1) := by simp [World.iterPos, hit2]
      have HQ : Hid ((wr.iterAt K t (pos rs (i + 1))).heap[K]? = some (.stringIter t (pos rs (i + 1))) ∧ Below w.heap.size w (wr.iterAt K t (pos rs (i + 1))) ∧ (wr.iterAt K t (pos rs (i + 1))).iterPos K = pos rs (i + 1) ∧ pos rs i < pos rs (i + 1) ∧ pos rs i < t.size ∧ wr.iterPos K = pos rs i) := ⟨hit2, hbw2, hpos2, hpq, hp, hpos⟩
      clear hd hps hpl hR hit hbw hit2 hbw2 hpos hpos2 hpq
      go_wp2
      go_roundw
      case rel => exact ⟨i + 1, by omega, by go_num, HQ.out.1, HQ.out.2.1⟩
      case measure =>
        obtain ⟨_, _, x1, x2, x3, x4⟩ := HQ.out
        rw [x1, x4]
        omega
    · have he : i = n := by omega
      have hpe : ¬ pos rs i < t.size := by
        rw [he, ← HN.out, pos_all, ← HV.out, size_toList]; omega
      have hnx : ∀ ty, (Instr.next (.pointer (some ⟨K, 0, none⟩)) true ty).run Tryz.prog wr = _ := fun ty => run_next_end_at wr K t _ ty hit hpe
      clear hpe hit h1
      subst he
      go_wp2
      go_ret
      exact ⟨rfl, hbw⟩
set_option maxHeartbeats 1000000 in
theorem len6_any (o : Op5) (p : Option Addr) (l c : Nat) (w : World) (hg : opE o = 0) (ht : o.t.size ≤ 8388608) :
    Calls Tryz.prog 100 #[opV o (.slice p l c)] w fun r w' => r = .returned (.int .i64 (len5 o)) ∧ Below w.heap.size w w' := by
  rcases op_good hg with ⟨hi, hk⟩ | ⟨hc, _, hk⟩ | ⟨hc, _, hk⟩
  · unfold len5
    rw [if_pos hk]
    unfold lenO
    rcases hk with hk | hk
    · rw [if_pos hk]
      exact len6t_any o p l c w hk hi.utf ht
    · rw [if_neg (by omega)]
      obtain ⟨k, t, ⟨x, n, u⟩, cc, A⟩ := o
      simp only at hk
      subst hk
      clear hi ht hg
      go_enter Tryz.func100, Tryz.ntmps100
      go_wp2
      go_ret
      exact ⟨rfl, by go_grown⟩
  · unfold len5
    rw [if_neg (by omega)]
    obtain ⟨k, t, ⟨x, n, u⟩, cc, A⟩ := o
    simp only at hk
    subst hk
    clear hc ht hg
    go_enter Tryz.func100, Tryz.ntmps100
    go_wp2
    go_ret
    exact ⟨rfl, by go_grown⟩
  · unfold len5
    rw [if_neg (by omega)]
    obtain ⟨k, t, ⟨x, n, u⟩, cc, A⟩ := o
    simp only at hk
    subst hk
    clear hc ht hg
    go_enter Tryz.func100, Tryz.ntmps100
    go_wp2
    go_ret
    exact ⟨rfl, by go_grown⟩
end Go.Proofs.YthfpmhnnjjikcaaGreatDoor

/- vellumhand.Make, Is; vellumlaw06's gone, text, large, lives. -/
namespace Go.Proofs.YthfpmhnnjjikcaaGreatDoor
open Go Go.RowKit Go.Lib
set_option linter.unusedVariables false

set_option maxHeartbeats 1000000 in
theorem make_any {I : List Nat} {a : Nat → Addr} (v : Value) (E : List Op5) (w : World) (hI : ∀ i ∈ IxO, i ∈ I) (hS : Std I a w) (hv : ReO w v E) (hF : FitL E) (hl : E.length ≤ 1048576) (ht : txtS E ≤ 8388608) :
    Calls Tryz.prog 33 #[v] w fun r w' => ∃ dv, r = .returned dv ∧ ((ofE 0 0 E).2 = 0 → DelV w' w.heap.size w.heap.size dv (canonL E)) ∧ ((ofE 0 0 E).2 ≠ 0 → dv = .pointer none) ∧ Below w.heap.size w w' := by
  have c1 := buildOf_any v E w hI hS hv hF hl ht
  obtain ⟨D, ⟨p, cap, rfl, _, _, _⟩, hre⟩ := hv
  rw [forall2_len hre] at c1 ⊢
  clear hS hI hF hre ht
  obtain ⟨x, hx⟩ : ∃ x, ofE 0 0 E = x := ⟨_, rfl⟩
  rw [hx] at c1 ⊢
  clear hx
  obtain ⟨i, e⟩ := x
  obtain ⟨i1, hi1⟩ : ∃ z : Int, (i : Int) = z := ⟨_, rfl⟩
  simp only at c1 ⊢
  rw [hi1] at c1
  clear hi1
  cases e with
  | zero =>
    rw [errOf_zero] at c1
    go_enter Tryz.func33, Tryz.ntmps33
    go_wp2_with fail
    refine c1.mono ?_; rintro r w2 ⟨dv, rfl, hd, _, hb2⟩
    obtain ⟨q, pv, PL, rfl, hq⟩ := hd (by first | trivial | rfl)
    have HD : Hid (DelV w2 w.heap.size w.heap.size (.pointer (some ⟨q, 0, none⟩)) (canonL E)) := ⟨q, pv, PL, rfl, hq⟩
    clear c1 hd hq
    go_wp2
    go_ret
    exact ⟨_, rfl, fun _ => HD.out, fun h => absurd rfl h, hb2⟩
  | succ e =>
    rw [errOf_succ] at c1
    go_enter Tryz.func33, Tryz.ntmps33
    go_wp2_with fail
    refine c1.mono ?_; rintro r w2 ⟨dv, rfl, _, hd, hb2⟩
    obtain rfl := hd (by omega)
    clear c1 hd
    go_wp2
    go_ret
    exact ⟨_, rfl, fun h => (by cases h), fun _ => rfl, hb2⟩
/-- Lists that the calls read. -/
structure OkR (E : List Op5) : Prop where
  n : ∀ o ∈ E, o.A.length ≤ 1048576
  len : E.length ≤ 2097152
set_option maxHeartbeats 1000000 in
theorem is_any {B1 B2 : Nat} (d v : Value) (E F : List Op5) (w : World) (h : DelV w B1 B2 d E) (hg : ∀ o ∈ E, opE o = 0) (hE : OkR E) (hv : ReO w v F) (hF : OkR F) :
    Calls Tryz.prog 15 #[d, v] w fun r w' => r = .returned (.bool (decide (E = F))) ∧ Below w.heap.size w w' := by
  have c1 := ops_any d E w h hg (fun o ho => by have := hE.n o ho; omega) (by have := hE.len; omega)
  have c2 : Hid (∀ W v', Below w.heap.size w W → ReO W v' E → Calls Tryz.prog 62 #[v', v] W fun r w' => r = .returned (.bool (decide (E = F))) ∧ Below W.heap.size W w') := fun W v' hW h' => same6_any v' v E F W h' (hv.below hW) hE.len hF.len hE.n hF.n
  have c3 : Hid (∀ W, Below w.heap.size w W → Calls Tryz.prog 63 #[d] W fun e w' => e = .returned (.int .i64 E.length) ∧ Below W.heap.size W w') := fun W hW => count_any5 d E W (h.below hW)
  obtain ⟨q, pv, PL, rfl, _⟩ := h
  obtain ⟨D, ⟨p, cap, rfl, _, _, _⟩, hre⟩ := hv
  have hl := forall2_len hre
  rw [hl] at c2 ⊢
  obtain ⟨R, hR⟩ : ∃ x, decide (E = F) = x := ⟨_, rfl⟩
  rw [hR] at c2 ⊢
  have hlen : R = true → ((E.length : Int) == (F.length : Int)) = true := fun h => by
    rw [h] at hR
    rw [of_decide_eq_true hR]; simp
  clear hg hE hF hre hl hR
  go_enter Tryz.func15, Tryz.ntmps15
  go_wp2_with fail
  refine c1.mono ?_; rintro r w2 ⟨v', rfl, hco, hb2⟩
  have c4 := c2.out w2 v' hb2 hco.re
  clear c1 c2 hco
  go_wp2_with fail
  refine c4.mono ?_; rintro r w3 ⟨rfl, hb3⟩
  have b3 := hb2.trans (hb3.mono hb2.size)
  clear c4 hb2 hb3
  cases R with
  | true =>
    have c5 := c3.out w3 b3
    have hl2 := hlen rfl
    clear c3 hlen
    go_wp2_with fail
    refine c5.mono ?_; rintro r w4 ⟨rfl, hb4⟩
    have b4 := b3.trans (hb4.mono b3.size)
    clear c5 b3 hb4
    go_wp2
    go_ret
    exact ⟨rfl, b4⟩
  | false =>
    clear c3 hlen
    go_wp2
    go_ret
    exact ⟨rfl, b3⟩
set_option maxHeartbeats 1000000 in
theorem gone_any (n : Int) (w : World) : Calls Tryz.prog 43 #[.int .i64 n] w fun r w' => r = .returned (opV (delO n) (.slice none 0 0)) ∧ Below w.heap.size w w' := by
  go_enter Tryz.func43, Tryz.ntmps43
  go_wp2
  exact bodyPost_ret (v := opV (delO n) (.slice none 0 0)) (by simp [results, Tryz.results43, go_sem, delO, z0]) rfl ⟨rfl, by go_grown⟩
/-- A text to insert. -/
def txtO (t : ByteArray) : Op5 := ⟨1, t, z0, 0, []⟩
set_option maxHeartbeats 1000000 in
theorem text_any (t : ByteArray) (w : World) : Calls Tryz.prog 44 #[.string t] w fun r w' => r = .returned (opV (txtO t) (.slice none 0 0)) ∧ Below w.heap.size w w' := by
  go_enter Tryz.func44, Tryz.ntmps44
  go_wp2
  exact bodyPost_ret (v := opV (txtO t) (.slice none 0 0)) (by simp [results, Tryz.results44, go_sem, txtO, z0]) rfl ⟨rfl, by go_grown⟩

/-- How large a list is. -/
def larN (E : List Op5) : Int := (E.map fun o => (o.t.size : Int) + 10 * o.A.length + 10).sum
theorem larN_append (E F : List Op5) : larN (E ++ F) = larN E + larN F := by unfold larN; rw [List.map_append, List.sum_append]
theorem larN_one (o : Op5) : larN [o] = (o.t.size : Int) + 10 * o.A.length + 10 := by simp [larN]
theorem larN_le {E : List Op5} (h : FitL E) : 0 ≤ larN E ∧ larN E ≤ 20000000 * E.length := by
  induction E with
  | nil => simp [larN]
  | cons o r ih =>
    obtain ⟨h1, h2⟩ := ih (fun x hx => h x (List.mem_cons_of_mem _ hx))
    have ho := h o (List.mem_cons_self ..)
    have e : larN (o :: r) = (o.t.size : Int) + 10 * o.A.length + 10 + larN r := by simp [larN]
    have a1 := ho.t
    have a2 := ho.n
    rw [e, List.length_cons]
    omega
theorem larN_txt (E : List Op5) : (txtS E : Int) + 10 * E.length ≤ larN E := by
  induction E with
  | nil => simp [larN, txtS]
  | cons o r ih =>
    have e : larN (o :: r) = (o.t.size : Int) + 10 * o.A.length + 10 + larN r := by simp [larN]
    have e2 : txtS (o :: r) = o.t.size + txtS r := by simp [txtS]
    rw [e, e2, List.length_cons]
    omega
theorem larN_mem {E : List Op5} {o : Op5} (h : o ∈ E) : (o.t.size : Int) + 10 * o.A.length + 10 ≤ larN E := by
  induction E with
  | nil => cases h
  | cons x r ih =>
    have e : larN (x :: r) = (x.t.size : Int) + 10 * x.A.length + 10 + larN r := by simp [larN]
    have := larN_txt r
    rcases List.mem_cons.1 h with rfl | h
    · omega
    · have := ih h; omega
end Go.Proofs.YthfpmhnnjjikcaaGreatDoor

/- vellumlaw06.lives answers true. -/
namespace Go.Proofs.YthfpmhnnjjikcaaGreatDoor
open Go Go.RowKit Go.Lib
set_option linter.unusedVariables false

/-- A row of operations laid at once. -/
theorem row_blk {w : World} {b : Nat} {D : List OV} (h : w.heap[b]? = some (.cells (cellsO D).toArray 33 (0, 0))) : RowO w (.slice (some ⟨b, 0, none⟩) D.length D.length) D := by
  refine ⟨some ⟨b, 0, none⟩, D.length, rfl, Nat.le_refl _, fun h => (by cases h), fun j d hd => ⟨b, 0, rfl, ?_⟩⟩
  obtain ⟨k0, k1, k2, k3, k4, k5, k6⟩ := cellsO_get D j d hd
  have e : ∀ i u, (cellsO D)[i]? = some u → w.cell? ⟨b, i, none⟩ = some u := fun i u hu => by
    rw [cell_of_heap h]
    rw [List.getElem?_toArray]
    exact hu
  rw [Nat.zero_add]
  exact ⟨e _ _ k0, e _ _ k1, e _ _ k2, e _ _ k3, e _ _ k4, e _ _ k5, e _ _ k6⟩
/-- An operation without attributes, as it lies in memory. -/
abbrev ovN (o : Op5) : OV := (o.k, o.t, o.v, o.c, (none, 0, 0))
theorem re_blk {w : World} {b : Nat} {E : List Op5} (h : w.heap[b]? = some (.cells (cellsO (E.map ovN)).toArray 33 (0, 0))) (hA : ∀ o ∈ E, o.A = []) : ReO w (.slice (some ⟨b, 0, none⟩) E.length E.length) E := by
  refine ⟨E.map ovN, ?_, ?_⟩
  · have := row_blk h
    rw [List.length_map] at this
    exact this
  · clear h
    induction E with
    | nil => exact .nil
    | cons o r ih =>
      refine .cons ⟨rfl, rfl, rfl, rfl, ?_⟩ (ih fun x hx => hA x (List.mem_cons_of_mem _ hx))
      rw [hA o (List.mem_cons_self ..)]
      exact RN.nil w
def live0 : List Op5 := [delO 1, txtO ⟨#[97]⟩, delO 2, txtO ⟨#[98]⟩, ⟨3, ⟨#[]⟩, z0, 3, []⟩]
def live1 : List Op5 := [txtO ⟨#[97, 98]⟩, delO 3]
theorem live0_ok : ofE 0 0 live0 = (0, 0) := by kernel_rfl
theorem live0_canon : canonL live0 = live1 := by kernel_rfl
theorem fit_nil {o : Op5} (h1 : o.t.size ≤ 8388608) (h2 : o.v.2.2.size ≤ 1048576) (h3 : o.A = []) : Fit o := ⟨h1, h2, fun q hq => (by rw [h3] at hq; cases hq), by rw [h3]; simp⟩
theorem live0_nil : ∀ o ∈ live0, o.A = [] := by
  intro o ho
  simp only [live0, List.mem_cons, List.not_mem_nil, or_false] at ho
  rcases ho with rfl | rfl | rfl | rfl | rfl <;> rfl
theorem live1_nil : ∀ o ∈ live1, o.A = [] := by
  intro o ho
  simp only [live1, List.mem_cons, List.not_mem_nil, or_false] at ho
  rcases ho with rfl | rfl <;> rfl
theorem live0_fit : FitL live0 := by
  intro o ho
  refine fit_nil ?_ ?_ (live0_nil o ho)
  all_goals
    simp only [live0, List.mem_cons, List.not_mem_nil, or_false] at ho
    rcases ho with rfl | rfl | rfl | rfl | rfl <;> decide
theorem live1_okR : OkR live1 := ⟨fun o ho => by rw [live1_nil o ho]; simp, by decide⟩
theorem live1_good : ∀ o ∈ live1, opE o = 0 := by
  intro o ho
  simp only [live1, List.mem_cons, List.not_mem_nil, or_false] at ho
  rcases ho with rfl | rfl <;> kernel_rfl
set_option maxHeartbeats 2000000 in
set_option maxRecDepth 100000 in
theorem lives_any {I : List Nat} {a : Nat → Addr} (w : World) (hI : ∀ i ∈ IxO, i ∈ I) (hS : Std I a w) :
    Calls Tryz.prog 8 #[] w fun r w' => r = .returned (.bool true) ∧ Below w.heap.size w w' := by
  have CO : Hid (∀ W b, Below w.heap.size w W → W.heap[b]? = some (.cells (cellsO (live0.map ovN)).toArray 33 (0, 0)) → Calls Tryz.prog 42 #[.slice (some ⟨b, 0, none⟩) 5 5] W fun r w' => ∃ dv, r = .returned (.tuple #[dv, .int .i64 0, .nilIface]) ∧ (∃ q, dv = .pointer (some ⟨q, 0, none⟩)) ∧ DelV w' W.heap.size W.heap.size dv live1 ∧ Below W.heap.size W w') := fun W b hW hb => by
    refine (buildOf_any _ live0 W hI (hS.below hW) (re_blk hb live0_nil) live0_fit (by decide) (by decide)).mono ?_
    rintro r w' ⟨dv, h1, h2, _, h4⟩
    rw [live0_ok] at h1 h2
    rw [live0_canon] at h2
    have h5 := h2 rfl
    obtain ⟨q, pv, PL, e, _⟩ := id h5
    exact ⟨dv, h1, ⟨q, e⟩, h5, h4⟩
  have CI : Hid (∀ W b dv B1 B2, DelV W B1 B2 dv live1 → W.heap[b]? = some (.cells (cellsO (live1.map ovN)).toArray 33 (0, 0)) → Calls Tryz.prog 15 #[dv, .slice (some ⟨b, 0, none⟩) 2 2] W fun r w' => r = .returned (.bool true) ∧ Below W.heap.size W w') := fun W b dv B1 B2 h hb => by
    have := is_any dv (.slice (some ⟨b, 0, none⟩) 2 2) live1 live1 W h live1_good live1_okR (re_blk hb live1_nil) live1_okR
    rw [decide_eq_true rfl] at this
    exact this
  clear hS hI
  go_enter Tryz.func8, Tryz.ntmps8
  go_wp2_with fail
  refine (gone_any _ _).mono ?_; rintro r w1 ⟨rfl, hb1⟩
  go_wp2_with fail
  refine (text_any _ _).mono ?_; rintro r w2 ⟨rfl, hb2⟩
  have b2 := hb1.trans (hb2.mono hb1.size)
  clear hb1 hb2
  go_wp2_with fail
  refine (gone_any _ _).mono ?_; rintro r w3 ⟨rfl, hb3⟩
  have b3 := b2.trans (hb3.mono b2.size)
  clear b2 hb3
  go_wp2_with fail
  refine (text_any _ _).mono ?_; rintro r w4 ⟨rfl, hb4⟩
  have b4 := b3.trans (hb4.mono b3.size)
  clear b3 hb4
  go_wp2_with fail
  refine (CO.out _ _ (b4.alloc b4.size _) (heap_alloc_new w4 _)).mono ?_; rintro r w5 ⟨dv, rfl, ⟨q, rfl⟩, hd5, hb5⟩
  have b5 := (b4.alloc b4.size _).trans (hb5.mono (Nat.le_trans b4.size (by rw [World.size_alloc]; omega)))
  have HD5 : Hid (∃ B1 B2, DelV w5 B1 B2 (.pointer (some ⟨q, 0, none⟩)) live1) := ⟨_, _, hd5⟩
  clear hb5 hd5 CO b4
  go_wp2_with fail
  refine (text_any _ _).mono ?_; rintro r w6 ⟨rfl, hb6⟩
  have b6 := b5.trans (hb6.mono b5.size)
  have HD6 : Hid (∃ B1 B2, DelV w6 B1 B2 (.pointer (some ⟨q, 0, none⟩)) live1) := by obtain ⟨_, _, h⟩ := HD5.out; exact ⟨_, _, h.below hb6⟩
  clear hb6 b5 HD5
  go_wp2_with fail
  refine (gone_any _ _).mono ?_; rintro r w7 ⟨rfl, hb7⟩
  have b7 := b6.trans (hb7.mono b6.size)
  have HD7 : Hid (∃ B1 B2, DelV w7 B1 B2 (.pointer (some ⟨q, 0, none⟩)) live1) := by obtain ⟨_, _, h⟩ := HD6.out; exact ⟨_, _, h.below hb7⟩
  clear hb7 b6 HD6
  obtain ⟨B1, B2, hd7⟩ := HD7.out
  have HD : Hid (DelV w7 B1 B2 (.pointer (some ⟨q, 0, none⟩)) live1) := hd7
  clear hd7 HD7
  go_wp2_with fail
  refine (CI.out _ _ _ B1 B2 (HD.out.below ((Below.refl _ _).alloc (Nat.le_refl _) _)) (heap_alloc_new w7 _)).mono ?_; rintro r w8 ⟨rfl, hb8⟩
  have b8 := (b7.alloc b7.size _).trans (hb8.mono (Nat.le_trans b7.size (by rw [World.size_alloc]; omega)))
  clear hb8 b7 CI HD
  go_wp2_with fail
  refine (empty_any w8).mono ?_; rintro r w9 ⟨v9, rfl, ⟨q9, pv9, PL9, rfl, _⟩, hb9⟩
  have b9 := b8.trans (hb9.mono b8.size)
  clear hb9 b8
  go_wp2_with fail
  refine (new_any (B := 0) (D := fun _ => False) w9 (Nat.zero_le _) (by simp)).mono ?_; rintro r w10 ⟨rfl, _, hb10⟩
  have b10 := b9.trans (hb10.mono b9.size)
  clear hb10 b9
  go_wp2
  go_ret
  exact ⟨rfl, b10⟩
end Go.Proofs.YthfpmhnnjjikcaaGreatDoor

/- Canonical lists of operations in order are in order. -/
namespace Go.Proofs.YthfpmhnnjjikcaaGreatDoor
open Go Go.RowKit Go.Lib
set_option linter.unusedVariables false

theorem trim_sub (P : List Op5) : (∀ x ∈ trimL P, x ∈ P) ∧ txtS (trimL P) ≤ txtS P ∧ (trimL P).length ≤ P.length := by
  rcases List.eq_nil_or_concat P with rfl | ⟨F, x, rfl⟩
  · exact ⟨fun x h => h, Nat.le_refl _, Nat.le_refl _⟩
  · rw [List.concat_eq_append]
    have e : trimL (F ++ [x]) = if plainR x then F else F ++ [x] := by
      unfold trimL
      rw [List.getLast?_concat, List.dropLast_concat]
    rw [e]
    split
    · exact ⟨fun y h => List.mem_append_left _ h, by rw [txtS_append]; omega, by simp⟩
    · exact ⟨fun y h => h, Nat.le_refl _, Nat.le_refl _⟩
/-- The canonical list of operations in order is in order, and no greater. -/
theorem canon_ok {E : List Op5} (h : OkE E) : OkE (canonL E) ∧ txtS (canonL E) ≤ txtS E ∧ (canonL E).length ≤ E.length := by
  have hz : BSz (bldR E) E.length (txtS E) := by
    have := bldR_sz E BSz.nil h.fit
    rw [Nat.zero_add, Nat.zero_add] at this
    exact this
  obtain ⟨c1, c2, c3, c4⟩ := canon_spec h.wel
  obtain ⟨s1, s2⟩ := canon_sums h.wel
  have key : (∀ x ∈ canonL E, FitA x) ∧ txtS (canonL E) ≤ txtS E ∧ (canonL E).length ≤ E.length := by
    rw [← finB_canon h.wel]
    obtain ⟨a, b, c⟩ := hz.set
    have a2 := hz.fit
    have b2 := hz.txt
    have c2 := hz.len
    unfold finB
    by_cases h0 : 0 < (bldR E).2
    · rw [if_pos h0]
      unfold setB at a b c
      rw [if_pos h0] at a b c
      exact ⟨a, b, c⟩
    · rw [if_neg h0]
      obtain ⟨t1, t2, t3⟩ := trim_sub (bldR E).1
      exact ⟨fun x hx => a2 x (t1 x hx), by omega, by omega⟩
  have hb := h.base
  have hr := h.res
  have ht := h.txt
  have hl := h.len
  exact ⟨⟨wel_good c1 (by omega), key.1, by omega, by omega, by omega, by omega⟩, key.2⟩
theorem OkE.okR {E : List Op5} (h : OkE E) (hl : E.length ≤ 2097152) : OkR E := ⟨fun o ho => (h.fit o ho).n, hl⟩
theorem OkE.fitL {E : List Op5} (h : OkE E) : FitL E := fitA_all h.fit h.txt
/-- A list that isn't large. -/
theorem small_of {E : List Op5} (h : decide (60000 < larN E) = false) : txtS E ≤ 60000 ∧ E.length ≤ 6000 ∧ ∀ o ∈ E, o.A.length ≤ 6000 := by
  have h1 := of_decide_eq_false h
  have h2 := larN_txt E
  exact ⟨by omega, by omega, fun o ho => by have := larN_mem ho; omega⟩
/-- What a loop over a list of the call's own and over a row of pieces reads. -/
theorem both_read {w : World} {B1 B2 : Nat} {v1 v2 : Value} {P : List Value} {C : List Op5} (h1 : CoO w B1 v1 C) (h2 : OwnI w B2 v2 P) (h3 : PieD w B2 P C) :
    ∃ p1 c1 p2 c2, v1 = .slice p1 C.length c1 ∧ v2 = .slice p2 C.length c2 ∧ ∀ m, m < C.length → ∃ (e : Op5) (d : OV) (b ga : Nat) (s : Value), C[m]? = some e ∧ p1 = some ⟨b, 0, none⟩ ∧ OpAt w b (0 + m * 7) d ∧ ovV d = opV e (slV d.2.2.2.2) ∧ d.1 = e.k ∧ OwnA w B1 (slV d.2.2.2.2) e.A ∧ p2 = some ⟨ga, 0, none⟩ ∧ w.cell? ⟨ga, m, none⟩ = some (pieceQ e s) ∧ OwnA w B2 s e.A := by
  obtain ⟨D, hD, hO⟩ := h1
  have hl1 := forall2_len hO
  have hl2 := forall2_len h3
  obtain ⟨p1, c1, e1⟩ := own_slice hD
  obtain ⟨p2, c2, e2⟩ := own_slice h2
  refine ⟨p1, c1, p2, c2, by rw [e1, hl1], by rw [e2, hl2], fun m hm => ?_⟩
  obtain ⟨ga, c, x, hv', hB, hx, hc⟩ := own_cell h2 m (by omega)
  obtain ⟨e, s, he, rfl, hs⟩ := oneI h3 hx
  rw [e2] at hv'
  simp only [Value.slice.injEq] at hv'
  have hd : D[m]? = some (D[m]'(by omega)) := List.getElem?_eq_getElem (by omega)
  obtain ⟨y, hy, r⟩ := forall2_get hO m _ hd
  obtain rfl : y = e := Option.some.inj (hy.symm.trans he)
  rcases hD.2 with ⟨_, h0⟩ | ⟨g, cap, cur, e3, _, _, _, _, _, _⟩
  · omega
  · rw [e1] at e3
    simp only [Value.slice.injEq] at e3
    have hD' := hD
    unfold OwnO at hD'
    rw [e1, e3.1] at hD'
    have hat := own_opAt hD' m _ hd
    exact ⟨y, D[m]'(by omega), g, ga, s, he, e3.1, hat, opV_of ⟨r.1, r.2.1, r.2.2.1, r.2.2.2.1, own_RN r.2.2.2.2⟩, r.1, r.2.2.2.2, hv'.1, hc, hs⟩
end Go.Proofs.YthfpmhnnjjikcaaGreatDoor
