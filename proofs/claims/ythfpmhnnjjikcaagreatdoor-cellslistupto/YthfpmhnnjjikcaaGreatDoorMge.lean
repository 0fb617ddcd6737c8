/- cells.List of a document. cells.insert, cells.Check. cells.push, cells.Of. cells.Of of any list of cells. The document's deltas: Same, SameOp, Insert, Len. The document's deltas: push: an operation put behind others. vellumhand.Make, Is; vellumlaw06's gone, text, large, lives. vellumlaw06.lives answers true. Canonical lists of operations in order are in order. The canonical list while it is made: sizes. The document's op, Doc, Of, SameList of layer 9. vellumlaw09.large, vellumlaw09.lives. The errors' numbers: what vellumnum.list and vellumnum.Num answer where all nineteen sentinels lie as laid. vellumspare.Spoil: writes over operations and their lists, and nothing else. What writing over a list leaves of deltas; build.Same. Of all lists of cells vellumlaw09.CellsBack answers true. vellumlaw09.told: what cells.Each tells. A region that draws its order, in a round of a range over a function: the plain kit's walk of it (held at S) serves: its laws, and those by which it is walked by hand. vellumlaw09.stops: cells.Each, stopped. -/
import Derived.Test.YthfpmhnnjjikcaaGreatDoorMgd
import Derived.BigQuiet
import Derived.BigRegion
import Derived.Test.YthfpmhnnjjikcaaGreatDoorMgc
import Derived.Test.YthfpmhnnjjikcaaGreatDoorCc
import Derived.Test.YthfpmhnnjjikcaaGreatDoorSw
import Derived.Test.YthfpmhnnjjikcaaGreatDoorMga
import Derived.PlainAid
import Derived.Handy
import Derived.Lib.QuietBelow
import Derived.Test.YthfpmhnnjjikcaaGreatDoorOwn
import Derived.OwnWalk
import Derived.Laws.AppendOwn
import Derived.Test.YthfpmhnnjjikcaaGreatDoorVs
import Derived.Shelf.Unicode.ValidAny
import Derived.Test.YthfpmhnnjjikcaaGreatDoorSc
import Derived.Test.YthfpmhnnjjikcaaGreatDoorUtf
import Derived.Test.YthfpmhnnjjikcaaGreatDoorPc
import Derived.Deep.RegionHeld3
import Derived.Test.YthfpmhnnjjikcaaGreatDoorCf
import Derived.Deep.DeepCutAuto
import Derived.Test.YthfpmhnnjjikcaaGreatDoorMgb
import Derived.OneCell
import Derived.Test.YthfpmhnnjjikcaaGreatDoorQb
import Derived.Test.YthfpmhnnjjikcaaGreatDoorOw
import Derived.Test.YthfpmhnnjjikcaaGreatDoorEr
import Derived.Test.YthfpmhnnjjikcaaGreatDoorSpo
import Derived.OrdersIn
import Derived.OwnWalkIn
import Derived.RangeFuncCalls

/- cells.List of a document. -/
namespace Go.Proofs.YthfpmhnnjjikcaaGreatDoor
open Go Go.RowKit Go.Lib Go.Shelf
set_option linter.unusedVariables false
attribute [local go_sem] Oper.semAt_some
theorem wpListIn_append_cells {F : Fence} {n : Nat} {w : World} {ops : Array Oper} {rest : List Oper} {o : Oper} {a : Act} {Q : Exit → Act → World → Prop} (hgd : o.guard = none) (s x : Operand)
    (ho : o.op = .call { callee := .builtin .append, args := #[s, x], argTypes := #[74, 74] })
    (base : Nat) (v : Value) (L : List CV) (hs : a.eval s = v) (hown : OwnC w base v L)
    (b : Nat) (d : CV) (hx : a.eval x = .slice (some ⟨b, 0, none⟩) 1 1) (hM : w.heap[b]? = some (.cells (ceC d) 84 (0, 0)))
    (h63 : L.length + 1 ≤ 33554432) (hbase : base ≤ w.heap.size)
    (h : ∀ v' w', OwnC w' base v' (L ++ [d]) → w.grownBy w' v.ownBlock → wpListIn F n Tryz.prog ops Q rest (a.put o.dst v') w') : wpListIn F n Tryz.prog ops Q (o :: rest) a w := by
  obtain ⟨i, z, hi, hz, hz1, hz2, hz3⟩ := infoCe
  refine wpListIn_append_own _ hgd s x _ ho base 84 i z 6 80 Tryz.underlying74 hi hz hz1 hz2 hz3 (by decide) v L.length (cellsC L) hs hown ⟨b, 0, none⟩ 1 1 (cellsC [d]) hx (by rw [cellsC_len]; rfl) (fun j y hj => ?_) (cellsC_one _) (by unfold maxLen; omega) (by omega) hbase (fun v' w' h1 h2 _ => ?_)
  · rw [Addr.add_lit, Nat.zero_add, cell_of_heap hM, List.getElem?_toArray]
    exact hj
  · refine h v' w' ?_ h2
    show w'.ownsRow _ _ _ _ _ _
    rw [cellsC_append, List.length_append]
    exact h1
/-- The cells' own lists lie in blocks of their own, one behind the other. -/
def Asc9 (D : List CV) : Prop := D.Pairwise fun d d' => ∀ k k', (slV d.2.2.2).ownBlock = some k → (slV d'.2.2.2).ownBlock = some k' → k < k'
/-- What List has so far. -/
structure Li9 (E : List Op5) (w : World) (O : Nat) (pre : List EZ) (lv : Value) (D : List CV) (A : World) : Prop where
  box : A.heap[O]? = some (.cells #[lv] 74 (0, 0))
  len : D.length = pre.length
  own : OwnC A w.heap.size lv D
  are : AreO A w.heap.size D ((cellsL E).take pre.length)
  below : Below w.heap.size w A
  asc : Asc9 D
  mks : ∀ d ∈ D, ∀ k, (slV d.2.2.2).ownBlock = some k → ∃ y ∈ pre, k < y.2.2.2
theorem Li9.tr {E : List Op5} {w : World} {O B : Nat} {pre : List EZ} {lv : Value} {D : List CV} {A A' : World} (h : Li9 E w O pre lv D A) (k : Tr7 (fun t => t = 3) B A A') (hO : O < B) (hw : w.heap.size ≤ B) : Li9 E w O pre lv D A' :=
  ⟨k.kept _ _ h.box (.inl hO), h.len, owns_same h.own fun j hj => (by
    obtain ⟨_, cur, hc⟩ := owns_block h.own j hj
    exact (k.kept _ _ hc (.inr ⟨_, _, _, rfl, by decide⟩)).trans hc.symm), h.are.keep (fun j cur hj => (k.kept _ _ hj (.inr ⟨_, _, _, rfl, by decide⟩)).trans hj.symm), tr_below8 h.below (Nat.le_refl _) hw k, h.asc, h.mks⟩
theorem list_leave (A : World) (D : Nat) (tmps : Array Value) (lv : Value) {R : Value → World → Prop} (h2 : tmps[2]? = some lv) (h3 : tmps[3]? = some .nilIface) (hK : A.heap[D]? = some (.deferred (some []))) (h : R lv (A.putObj D (.deferred none))) :
    bodyPostM Fence.wide 15 Tryz.prog Tryz.f34 (fun r w' => ∃ lv, r = .returned (.tuple #[lv, .nilIface]) ∧ R lv w') Exit.ret { tmps := tmps, defers := [{ target := .collected D, args := #[] }] } A := by
  refine ⟨by simp, .inl ⟨_, _, rfl, run_takeDeferred hK, ?_⟩⟩
  refine ⟨.tuple #[lv, .nilIface], ?_, ⟨lv, rfl, h⟩⟩
  simp [results, Tryz.results34, go_sem, h2, h3]
theorem list_keep {E : List Op5} {w A A' : World} {O : Nat} {pre : List EZ} {lv : Value} {L : List CV} {d : CV} (h : Li9 E w O pre lv L A) (g : (A.alloc (.cells (ceC d) 84)).grownBy A' lv.ownBlock) (k : Nat) (o : Obj) (hk : A.heap[k]? = some o) (hn : ∀ cs, o ≠ .cells cs 84 (0, 0)) : A'.heap[k]? = some o := by
  have hlt := (Array.getElem?_eq_some_iff.1 hk).1
  refine (g.block k (by rw [World.size_alloc]; omega) fun e => ?_).trans ((Below.heap_alloc _ _ _ hlt).trans hk)
  obtain ⟨_, cur, hc⟩ := owns_block h.own k e.symm
  rw [hk] at hc
  exact hn cur (Option.some.inj hc)
theorem list_box {E : List Op5} {w A A' : World} {O : Nat} {pre : List EZ} {lv : Value} {L : List CV} {d : CV} (h : Li9 E w O pre lv L A) (g : (A.alloc (.cells (ceC d) 84)).grownBy A' lv.ownBlock) : A'.heap[O]? = some (.cells #[lv] 74 (0, 0)) :=
  list_keep h g O _ h.box (fun cs e => by cases e)
theorem list_round {E : List Op5} {w A A' : World} {O W4 zi zlo zhi : Nat} {pre : List EZ} {lv v' : Value} {L : List CV} {zk : Int} {zt : ByteArray} {zz : P3} {zp : Option Addr} {zl zc : Nat} {e : C5} (h : Li9 E w O pre lv L A) (he : (cellsL E)[pre.length]? = some e) (hz : zk = e.1 ∧ zt = e.2.1 ∧ zz = e.2.2.1) (hin : InA A zlo zhi (.slice zp zl zc) e.2.2.2) (hlo : W4 ≤ zlo) (has : ∀ y ∈ pre, y.2.2.2 ≤ zlo) (own : OwnC A' w.heap.size v' (L ++ [(zk, zt, zz, zp, zl, zc)])) (g : (A.alloc (.cells (ceC (zk, zt, zz, zp, zl, zc)) 84)).grownBy A' lv.ownBlock) (hbx : A'.heap[O]? = some (.cells #[lv] 74 (0, 0))) (hO : O < W4 ∧ w.heap.size ≤ O) :
    KeepsFrom W4 A (A'.setCell ⟨O, 0, none⟩ v') ∧ KE9 W4 pre (zi, ((zk, zt, zz, zp, zl, zc), zlo, zhi)) A (A'.setCell ⟨O, 0, none⟩ v') ∧ ∃ lv D, Li9 E w O (pre ++ [(zi, ((zk, zt, zz, zp, zl, zc), zlo, zhi))]) lv D (A'.setCell ⟨O, 0, none⟩ v') := by
  have key : ∀ (k : Nat) (o : Obj), A.heap[k]? = some o → (∀ cs, o ≠ .cells cs 84 (0, 0)) → k ≠ O → (A'.setCell ⟨O, 0, none⟩ v').heap[k]? = some o := fun k o hk hn hne => (Below.heap_setCell _ _ _ _ hne).trans (list_keep h g k o hk hn)
  have hnO : ∀ (k : Nat) (o : Obj), A.heap[k]? = some o → (∀ cs, o ≠ .cells cs 74 (0, 0)) → k ≠ O := fun k o hk hn e => by subst e; rw [h.box] at hk; exact hn _ (Option.some.inj hk).symm
  have hsz : A.heap.size ≤ (A'.setCell ⟨O, 0, none⟩ v').heap.size := by have := g.size; rw [World.size_alloc] at this; simp; omega
  have hka : KeepA A (A'.setCell ⟨O, 0, none⟩ v') := fun k cur hk => (key k _ hk (fun cs e => by cases e) (hnO k _ hk (fun cs e => by cases e))).trans hk.symm
  refine ⟨⟨hsz, fun k o _ hk hc => key k o hk (fun cs e => by rw [e] at hc; cases hc) (hnO k o hk (fun cs e => by rw [e] at hc; cases hc))⟩, ⟨hsz, fun k cs t hk ht => ?_, fun k t p hk => key k _ hk (fun cs e => by cases e) (hnO k _ hk (fun cs e => by cases e)), fun k cs hk _ => key k _ hk (fun cs e => by cases e) (hnO k _ hk (fun cs e => by cases e))⟩, v', L ++ [(zk, zt, zz, zp, zl, zc)], ?_, ?_, ?_, ?_, ?_, ?_, ?_⟩
  · rcases ht with rfl | rfl | rfl | ⟨h1, h2, h3⟩
    · exact key k _ hk (fun cs e => by cases e) (hnO k _ hk (fun cs e => by cases e))
    · exact key k _ hk (fun cs e => by cases e) (hnO k _ hk (fun cs e => by cases e))
    · exact key k _ hk (fun cs e => by cases e) (hnO k _ hk (fun cs e => by cases e))
    · exact key k _ hk (fun cs e => by cases e; exact h2 rfl) (by omega)
  · have := heap_set_at A' O 0 v' _ _ _ hbx
    simpa using this
  · rw [List.length_append, List.length_append, h.len]; rfl
  · refine owns_same own fun k hk => Below.heap_setCell _ _ _ _ fun e => ?_
    obtain ⟨_, cur, hc⟩ := owns_block own k hk
    rw [show k = O from e, hbx] at hc
    cases hc
  · rw [List.length_append, List.length_singleton, List.take_add_one, he]
    exact forall2_append (h.are.keep hka) (.cons ⟨hz.1, hz.2.1, hz.2.2, keepA_own (own_weaken hin.own (by omega)) hka⟩ .nil)
  · have h1 : Below w.heap.size w (A.alloc (.cells (ceC (zk, zt, zz, zp, zl, zc)) 84)) := h.below.alloc h.below.size _
    exact (h1.grown g h1.size (fun k hk => (owns_block h.own k hk).1)).setCell (p := ⟨O, 0, none⟩) hO.2 _
  · refine List.pairwise_append.2 ⟨h.asc, List.pairwise_singleton _ _, fun d hd d' hd' k k' hk hk' => ?_⟩
    rw [List.mem_singleton.1 hd'] at hk'
    obtain ⟨y, hy, hlt⟩ := h.mks d hd k hk
    have h1 := has y hy
    have h2 := (owns_block hin.own k' hk').1
    omega
  · intro d hd k hk
    rcases List.mem_append.1 hd with hd | hd
    · obtain ⟨y, hy, hlt⟩ := h.mks d hd k hk
      exact ⟨y, List.mem_append_left _ hy, hlt⟩
    · rw [List.mem_singleton.1 hd] at hk
      exact ⟨_, List.mem_append_right _ (List.mem_singleton.2 rfl), hin.top k hk⟩
set_option maxHeartbeats 8000000 in
set_option maxRecDepth 100000 in
theorem list9_asc {B1 B2 : Nat} (v : Value) (E : List Op5) (w : World) (h : DlE w B1 B2 v E) (h0 : sumB E = 0) (hc : sumR E ≤ 2097152) (hl : (cellsL E).length ≤ 2097152) :
    Calls Tryz.prog 34 #[v] w fun r w' => ∃ lv, r = .returned (.tuple #[lv, .nilIface]) ∧ (∃ D, OwnC w' w.heap.size lv D ∧ AreO w' w.heap.size D (cellsL E) ∧ Asc9 D) ∧ Below w.heap.size w w' := by
  have cD := doc8_any v E w h
  rw [show (sumB E == 0) = true by rw [h0]; rfl] at cD
  obtain ⟨N, hN⟩ : ∃ N : Nat, sumR E = N := ⟨(sumR E).toNat, by have := h.sums; omega⟩
  have cR : Hid (∀ W, Below w.heap.size w W → Calls Tryz.prog 37 #[v] W fun e w' => e = .returned (.int .i64 N) ∧ Below W.heap.size W w') := fun W hW => by rw [← hN]; exact result8_any v E W (h.below hW)
  have cE : Hid (∀ W, Below w.heap.size w W → Calls Tryz.prog 84 #[v] W fun r w' => ∃ x, r = .returned (.func (.func 115) #[] #[.pointer (some ⟨x, 0, none⟩)]) ∧ (∃ u, w'.cell? ⟨x, 0, none⟩ = some u ∧ DlE w' B1 B2 u E) ∧ Below W.heap.size W w') := fun W hW => by
    refine (eachC_call v E W (h.d.below hW)).mono ?_
    rintro r w' ⟨x, e, ⟨u, h1, h2⟩, _, h3⟩
    exact ⟨x, e, ⟨u, h1, ⟨h2, h.g, h.fit, h.len, h.txt, h.fits⟩⟩, h3⟩
  have HB : Hid (sumB E = 0 ∧ N ≤ 2097152 ∧ (cellsL E).length ≤ 2097152) := ⟨h0, by omega, hl⟩
  obtain ⟨q, rfl⟩ : ∃ q, v = .pointer (some ⟨q, 0, none⟩) := by obtain ⟨q, _, _, e, _⟩ := h.d; exact ⟨q, e⟩
  obtain ⟨i0, z0', hi, hz, hz1, hz2, hz3⟩ := infoCe
  have hZ : Hid (i0.zero = some z0' ∧ i0.size = 6 ∧ i0.bytes = 80 ∧ z0'.cells.size = 6) := ⟨hz, hz1, hz2, hz3⟩
  have hN2 : N ≤ 2097152 := HB.out.2.1
  clear h h0 hc hl hN hz hz1 hz2 hz3
  refine (callsIn_wide (n := 15)).1 ?_
  refine callsIn_of_wp_marks Tryz.func34 rfl trivial ?_ rfl
  simp only [Tryz.ntmps34, List.size_toArray, List.length_cons, List.length_nil, Nat.reduceAdd, Nat.reduceSub, Array.replicate_succ, Array.replicate_zero, List.push_toArray, List.append_toArray, List.nil_append, List.cons_append]
  rw [wpIn_wide]
  go_wp2_with fail
  refine cD.mono ?_; rintro r w1 ⟨rfl, hb1⟩
  have c2 := cR.out w1 hb1
  clear cD cR
  go_wp2_with fail
  refine c2.mono ?_; rintro r w2 ⟨rfl, hb2'⟩
  have hb2 := hb1.trans (hb2'.mono hb1.size)
  have hs2 := hb2.size
  clear c2 hb1 hb2'
  go_wp2_with (at_make; refine wpList_make_own _ rfl _ _ 74 rfl w.heap.size 84 i0 z0' 6 Tryz.underlying74 hi hZ.out.1 hZ.out.2.1 .i64 .i64 _ N rfl rfl rfl (by rw [hZ.out.2.2.1]; omega) (by unfold maxLen; omega) hs2 ?_; intro w3 hown hgr; have hb3 : Below w.heap.size w w3 := (hb2.grown hgr hb2.size (fun k hk => by cases hk)))
  have bO : Below w3.heap.size w3 (w3.alloc (.cells #[.slice (some ⟨w2.heap.size, 0, none⟩) 0 N] 74)) := (Below.refl _ _).alloc (Nat.le_refl _) _
  have hO := heap_alloc_new w3 (.cells #[.slice (some ⟨w2.heap.size, 0, none⟩) 0 N] 74)
  have hbO := hb3.trans (bO.mono hb3.size)
  have c3 := cE.out _ hbO
  have hown' : OwnC w3 w.heap.size (.slice (some ⟨w2.heap.size, 0, none⟩) 0 N) [] := hown
  refine c3.mono ?_; rintro r w4 ⟨x, rfl, hx, hb4⟩
  have H4 : Hid (Li9 E w w3.heap.size [] (.slice (some ⟨w2.heap.size, 0, none⟩) 0 N) [] w4 ∧ (∃ u, w4.cell? ⟨x, 0, none⟩ = some u ∧ DlE w4 B1 B2 u E) ∧ w3.heap.size < w4.heap.size ∧ w.heap.size ≤ w3.heap.size) := by
    have h1 := heap_below hb4 hO
    exact ⟨⟨h1, rfl, owns_below (owns_below hown' bO) hb4, by rw [List.length_nil, List.take_zero]; exact .nil, hbO.trans (hb4.mono hbO.size), List.Pairwise.nil, fun d hd => by cases hd⟩, hx, (Array.getElem?_eq_some_iff.1 h1).1, hb3.size⟩
  clear c3 cE hx hb4 hO bO hbO hown hown' hgr hb3 hb2 hs2 hi hZ
  go_wp2_with fail
  refine (wpIn_wide (n := 15)).1 ?_
  refine wpIn_rangeFunc_GA (encs := encE9) rfl (by decide) (gf := 115) (lb := #[.pointer (some ⟨x, 0, none⟩)]) rfl trivial (enters_of Tryz.func115 (by kernel_rfl) rfl)
    (eachC_seq E w4 x H4.out.2.1 (cellsL E).length (Nat.le_trans HB.out.2.2 (by decide)) (by rw [if_pos HB.out.1]) 14 (by decide)) (Below.refl _ _) (fun _ => rfl) (fun pre x A A' h k => h.bk k) (fun pre x A A' B B' k1 h k2 => KE9.bk k1 h k2)
    (fun (pre : List EZ) A => ∃ lv D, Li9 E w w3.heap.size pre lv D A) (fun _ _ _ => False)
    (fun s A A' ⟨lv, D, h⟩ k => ⟨lv, D, h.tr k (by have := H4.out; omega) (by have := H4.out; omega)⟩) (fun _ _ _ _ h _ => h) ⟨_, _, H4.out.1⟩
    (fun (_ : List EZ) (z : EZ) (a' : Act) (A : World) => ∃ b, a' = { tmps := #[.pointer (some ⟨q, 0, none⟩), undef, .slice none 0 0, .nilIface, .pointer (some ⟨w3.heap.size, 0, none⟩), undef, .pointer (some ⟨b, 0, none⟩), .pointer (some ⟨q, 0, none⟩), .bool true, .bool false, undef, .pointer (some ⟨q, 0, none⟩), .int .i64 N, .slice (some ⟨w2.heap.size, 0, none⟩) 0 N, .pointer (some ⟨q, 0, none⟩), .func (.func 115) #[] #[.pointer (some ⟨x, 0, none⟩)], .int .i64 (z.1 : Nat), ceV z.2.1, undef, undef, undef, undef, undef], defers := [] } ∧ A.heap[b]? = some (.cells (ceC z.2.1) 84 (0, 0))) (fun _ _ _ _ _ ⟨b, h1, h2⟩ k => ⟨b, h1, k.cells h2⟩) ?assign ?body ?done ?stop
  case assign =>
    intro l2 pre z W4 K _ _ hK
    obtain ⟨zi, ⟨zk, zt, ⟨z1, z2, z3⟩, zp, zl, zc⟩, zlo, zhi⟩ := z
    simp only [encE9, ceV, slV]
    gi_wp2
    exact hK _ _ ((Below.refl _ _).alloc (Nat.le_refl _) _) ⟨W4.heap.size, rfl, heap_alloc_new W4 _⟩
  case body =>
    rintro l2 pre z a' A hl2 hrec ⟨lv, L, hli⟩ hG ⟨b, rfl, hb⟩
    obtain ⟨hi0, e, he, g1, g2, g3, g4, g5, g6, g7⟩ := hG
    rw [docC9_yes HB.out.1] at he
    obtain ⟨zi, ⟨zk, zt, ⟨z1, z2, z3⟩, zp, zl, zc⟩, zlo, zhi⟩ := z
    have hlt := (List.getElem?_eq_some_iff.1 he).1
    have hln : L.length + 1 ≤ 33554432 := by have := HB.out.2.2; have := hli.len; omega
    have hbase : w.heap.size ≤ (A.alloc (.cells (ceC (zk, zt, (z1, z2, z3), zp, zl, zc)) 84)).heap.size := by have := hli.below.size; rw [World.size_alloc]; omega
    have HM : Hid ((A.alloc (.cells (ceC (zk, zt, (z1, z2, z3), zp, zl, zc)) 84)).heap[A.heap.size]? = some (.cells (ceC (zk, zt, (z1, z2, z3), zp, zl, zc)) 84 (0, 0)) ∧ OwnC (A.alloc (.cells (ceC (zk, zt, (z1, z2, z3), zp, zl, zc)) 84)) w.heap.size lv L) := ⟨heap_alloc_new A _, owns_below hli.own ((Below.refl _ _).alloc (Nat.le_refl _) _)⟩
    have HLI : Hid (Li9 E w w3.heap.size pre lv L A ∧ (cellsL E)[pre.length]? = some e ∧ (zk = e.1 ∧ zt = e.2.1 ∧ (z1, z2, z3) = e.2.2.1) ∧ InA A zlo zhi (.slice zp zl zc) e.2.2.2 ∧ w4.heap.size ≤ zlo ∧ ∀ y ∈ pre, y.2.2.2 ≤ zlo) := ⟨hli, he, ⟨g1, g2, g3⟩, g4, g5, g7⟩
    have cO : A.cell? ⟨w3.heap.size, 0, none⟩ = some lv := by rw [cell_of_heap hli.box]; rfl
    have b0 : A.cell? ⟨b, 0, none⟩ = some (.int .i32 zk) := by rw [cell_of_heap hb]; rfl
    have b1 : A.cell? ⟨b, 1, none⟩ = some (.string zt) := by rw [cell_of_heap hb]; rfl
    have b2 : A.cell? ⟨b, 2, none⟩ = some (.int .i64 z1) := by rw [cell_of_heap hb]; rfl
    have b3 : A.cell? ⟨b, 3, none⟩ = some (.int .i64 z2) := by rw [cell_of_heap hb]; rfl
    have b4 : A.cell? ⟨b, 4, none⟩ = some (.string z3) := by rw [cell_of_heap hb]; rfl
    have b5 : A.cell? ⟨b, 5, none⟩ = some (.slice zp zl zc) := by rw [cell_of_heap hb]; rfl
    clear hli he g1 g2 g3 g4 g5 g6 g7 hlt hb hi0 hrec hl2
    simp only [ceV, slV]
    gi_wp2_with (gi_at_builtin; refine wpListIn_append_cells rfl (.tmp 18) (.tmp 20) rfl w.heap.size lv L rfl HM.out.2 A.heap.size (zk, zt, (z1, z2, z3), zp, zl, zc) rfl HM.out.1 hln hbase ?_; intro v' A' own' gr'; obtain ⟨pv, nv, cv, ev⟩ : ∃ p n c, v' = .slice p n c := (by obtain ⟨p, c, h, _⟩ := own_rowC own'; exact ⟨p, _, c, h⟩); subst ev; have hbox := list_box (d := (zk, zt, (z1, z2, z3), zp, zl, zc)) HLI.out.1 gr'; have cO' : A'.cell? ⟨w3.heap.size, 0, none⟩ = some lv := (by rw [cell_of_heap hbox]; rfl); have fO' : A'.frozen? ⟨w3.heap.size, 0, none⟩ = false := frozen_of_heap hbox 0; have HBX : Hid ((OwnC A' w.heap.size (.slice pv nv cv) (L ++ [(zk, zt, (z1, z2, z3), zp, zl, zc)]) ∧ (A.alloc (.cells (ceC (zk, zt, (z1, z2, z3), zp, zl, zc)) 84)).grownBy A' lv.ownBlock) ∧ A'.heap[w3.heap.size]? = some (.cells #[lv] 74 (0, 0))) := ⟨⟨own', gr'⟩, hbox⟩; clear own' gr' hbox cO b0 b1 b2 b3 b4 b5 HM)
    exact list_round HLI.out.1 HLI.out.2.1 HLI.out.2.2.1 HLI.out.2.2.2.1 HLI.out.2.2.2.2.1 HLI.out.2.2.2.2.2 HBX.out.1.1 HBX.out.1.2 HBX.out.2 H4.out.2.2
  case stop => intro D c pre W _ h; exact h.elim
  case done =>
    rintro D xs A hD hS ⟨lv, L, hli⟩ hK
    have cO : A.cell? ⟨w3.heap.size, 0, none⟩ = some lv := by rw [cell_of_heap hli.box]; rfl
    have hall : (cellsL E).take xs.length = cellsL E := List.take_of_length_le (by omega)
    have HF : Hid (Li9 E w w3.heap.size xs lv L A ∧ (cellsL E).take xs.length = cellsL E ∧ w4.heap.size ≤ D) := ⟨hli, hall, hD⟩
    clear hli hall hS hD
    gi_wp2
    go_wp2
    have h9 := HF.out.1.tr (tr7_put9 (T := fun t => t = 3) (o' := .deferred none) hK HF.out.2.2) (by have := H4.out; omega) (by have := H4.out; omega)
    exact list_leave A D _ lv rfl rfl hK ⟨⟨L, h9.own, by rw [← HF.out.2.1]; exact h9.are, h9.asc⟩, h9.below⟩
theorem list9_any {B1 B2 : Nat} (v : Value) (E : List Op5) (w : World) (h : DlE w B1 B2 v E) (h0 : sumB E = 0) (hc : sumR E ≤ 2097152) (hl : (cellsL E).length ≤ 2097152) :
    Calls Tryz.prog 34 #[v] w fun r w' => ∃ lv, r = .returned (.tuple #[lv, .nilIface]) ∧ (∃ D, OwnC w' w.heap.size lv D ∧ AreO w' w.heap.size D (cellsL E)) ∧ Below w.heap.size w w' :=
  (list9_asc v E w h h0 hc hl).mono fun r w' ⟨lv, h1, ⟨D, h2, h3, _⟩, h4⟩ => ⟨lv, h1, ⟨D, h2, h3⟩, h4⟩
end Go.Proofs.YthfpmhnnjjikcaaGreatDoor

/- cells.insert, cells.Check. -/
namespace Go.Proofs.YthfpmhnnjjikcaaGreatDoor
open Go Go.RowKit Go.Lib
set_option linter.unusedVariables false
theorem width9_any (r : Int) (w : World) : Calls Tryz.prog 148 #[.int .i32 r] w fun e w' => e = .returned (.int .i64 (max 0 (runeLen r))) ∧ w' = w := by
  have c := Tryz.utf8_RuneLen r w
  obtain ⟨n, hn⟩ : ∃ n, runeLen r = n := ⟨_, rfl⟩
  rw [hn] at c ⊢
  clear hn
  go_enter Tryz.func148, Tryz.ntmps148
  go_wp2_with (go_at_call 161; refine c.mono ?_; rintro e w' ⟨rfl, rfl⟩)
  go_ret
  exact ⟨rfl, rfl⟩
theorem width9_scal {r : Nat} (h : scal r) : ∃ n : Nat, 1 ≤ n ∧ ∀ w, Calls Tryz.prog 148 #[.int .i32 r] w fun e w' => e = .returned (.int .i64 n) ∧ w' = w := by
  refine ⟨(max 0 (runeLen r)).toNat, ?_, ?_⟩
  · unfold scal at h
    unfold runeLen
    repeat' split
    all_goals omega
  · intro w
    have := width9_any r w
    rwa [show max 0 (runeLen (r : Int)) = ((max 0 (runeLen (r : Int))).toNat : Int) by omega] at this
theorem width9_not {z : Int} (h : ¬ isScal z) (w : World) : Calls Tryz.prog 148 #[.int .i32 z] w fun e w' => e = .returned (.int .i64 0) ∧ w' = w := by
  have := width9_any z w
  have e : max 0 (runeLen z) = 0 := by
    unfold isScal at h
    unfold runeLen
    repeat' split
    all_goals omega
  rwa [e] at this

set_option maxHeartbeats 2000000 in
theorem insertC_op (e : C5) (p : Option Addr) (l c : Nat) (w : World) (h : ¬ badC e) :
    Calls Tryz.prog 132 #[ceP e (.slice p l c)] w fun r w' => r = .returned (.tuple #[opV (opOf e) (.slice p l c), .nilIface]) ∧ Below w.heap.size w w' := by
  obtain ⟨k, t, ⟨x, n, u⟩, A⟩ := e
  have b0 := (Below.refl w.heap.size w).alloc (Nat.le_refl _) (.cells (ceA (k, t, (x, n, u), A) (.slice p l c)) 84)
  simp only [ceA] at b0
  by_cases hk : k = -1
  · subst hk
    rw [show opOf (-1, t, (x, n, u), A) = ⟨2, t, (x, n, u), 0, A⟩ from rfl]
    clear h
    go_enter Tryz.func132, Tryz.ntmps132
    go_wp2
    exact bodyPost_ret (v := .tuple #[opV ⟨2, t, (x, n, u), 0, A⟩ (.slice p l c), .nilIface]) (by simp [results, Tryz.results132, go_sem]) rfl ⟨rfl, by go_grown⟩
  · have h1 : isScal k ∧ t = ⟨#[]⟩ ∧ ((x, n, u) : P3) = z0 := by
      unfold badC at h
      simp only [ne_eq, not_and, not_or, Decidable.not_not] at h
      exact h hk
    obtain ⟨h1, rfl, h3⟩ := h1
    simp only [z0, Prod.mk.injEq] at h3
    obtain ⟨rfl, rfl, rfl⟩ := h3
    obtain ⟨r, rfl, hr⟩ := scal_of h1
    rw [show opOf ((r : Int), ⟨#[]⟩, (0, 0, ⟨#[]⟩), A) = ⟨1, ⟨(enc r).toArray⟩, z0, 0, A⟩ from opOf_scal hr A]
    obtain ⟨m, hm, cw⟩ := width9_scal hr
    have hr1 : ((r : Int) == -1) = false := by rw [beq_eq_false_iff_ne]; omega
    have hm0 : ((m : Int) == 0) = false := by rw [beq_eq_false_iff_ne]; omega
    have henc := encU_eq hr
    have gd := fun op x' y' w => guard_pl op x' y' z0 z0 w
    have hne := neq_pl z0 z0 false (by rw [samP_self]; rfl)
    obtain ⟨t0, ht0⟩ : ∃ t0, (⟨(enc r).toArray⟩ : ByteArray) = t0 := ⟨_, rfl⟩
    rw [ht0] at henc ⊢
    clear h h1 hr hk ht0
    go_enter Tryz.func132, Tryz.ntmps132
    go_wp2_with (go_at_call 148; refine (cw _).mono ?_; rintro e w' ⟨rfl, rfl⟩)
    exact bodyPost_ret (v := .tuple #[opV ⟨1, t0, z0, 0, A⟩ (.slice p l c), .nilIface]) (by simp [results, Tryz.results132, go_sem, z0]) rfl ⟨rfl, by go_grown⟩
set_option maxHeartbeats 4000000 in
theorem insertC_bad {I : List Nat} {a : Nat → Addr} (e : C5) (p : Option Addr) (l c : Nat) (w : World) (hI : 4 ∈ I) (hS : Std I a w) (h : badC e) :
    Calls Tryz.prog 132 #[ceP e (.slice p l c)] w fun r w' => r = .returned (.tuple #[opV opZ nilS, errV a 4]) ∧ Below w.heap.size w w' := by
  obtain ⟨k, t, ⟨x, n, u⟩, A⟩ := e
  have b0 := (Below.refl w.heap.size w).alloc (Nat.le_refl _) (.cells (ceA (k, t, (x, n, u), A) (.slice p l c)) 84)
  have gK : (w.alloc (.cells (ceA (k, t, (x, n, u), A) (.slice p l c)) 84)).cell? ⟨7, 0, none⟩ = some (errV a 4) := (hS.below b0).er.cell 4 hI
  have gK2 : ((w.alloc (.cells (ceA (k, t, (x, n, u), A) (.slice p l c)) 84)).alloc (.cells #[.int .i64 0, .string ⟨#[]⟩, .int .i64 0, .int .i64 0, .string ⟨#[]⟩, .int .i64 0, .slice none 0 0] 33)).cell? ⟨7, 0, none⟩ = some (errV a 4) := ((hS.below b0).below ((Below.refl _ _).alloc (Nat.le_refl _) _)).er.cell 4 hI
  simp only [ceA] at b0 gK gK2
  obtain ⟨hk, h⟩ := h
  simp only at hk h
  have hk1 : (k == -1) = false := by simpa using hk
  clear hS hI
  by_cases h1 : isScal k
  · obtain ⟨r, rfl, hr⟩ := scal_of h1
    obtain ⟨m, hm, cw⟩ := width9_scal hr
    have hm0 : ((m : Int) == 0) = false := by rw [beq_eq_false_iff_ne]; omega
    have gd := fun op x' y' w => guard_pl op x' y' (x, n, u) (0, 0, ⟨#[]⟩) w
    cases he : t.toList.isEmpty with
    | true =>
      have hz : ((x, n, u) : P3) ≠ z0 := by
        rcases h with h | h | h
        · exact absurd h1 h
        · exact absurd (by rw [toList_data] at he; have := emp_iff.1 (by rw [toList_data]; exact he); exact this) h
        · exact h
      have hne := neq_pl (x, n, u) (0, 0, ⟨#[]⟩) true (by show (!samP (x, n, u) z0) = true; rw [samP_ne hz]; rfl)
      clear h hk h1 hr hz
      go_enter Tryz.func132, Tryz.ntmps132
      go_wp2_with (go_at_call 148; refine (cw _).mono ?_; rintro e w' ⟨rfl, rfl⟩)
      go_region
      go_wp2
      exact bodyPost_ret (v := .tuple #[opV opZ nilS, errV a 4]) (by simp [results, Tryz.results132, go_sem, z0, opZ, nilS]) rfl ⟨rfl, by go_grown⟩
    | false =>
      clear h hk h1 hr
      go_enter Tryz.func132, Tryz.ntmps132
      go_wp2_with (go_at_call 148; refine (cw _).mono ?_; rintro e w' ⟨rfl, rfl⟩)
      go_region
      go_wp2
      exact bodyPost_ret (v := .tuple #[opV opZ nilS, errV a 4]) (by simp [results, Tryz.results132, go_sem, z0, opZ, nilS]) rfl ⟨rfl, by go_grown⟩
  · have cw := fun W => width9_not h1 W
    clear h hk h1
    go_enter Tryz.func132, Tryz.ntmps132
    go_wp2_with (go_at_call 148; refine (cw _).mono ?_; rintro e w' ⟨rfl, rfl⟩)
    go_region
    go_wp2
    exact bodyPost_ret (v := .tuple #[opV opZ nilS, errV a 4]) (by simp [results, Tryz.results132, go_sem, z0, opZ, nilS]) rfl ⟨rfl, by go_grown⟩
end Go.Proofs.YthfpmhnnjjikcaaGreatDoor

/- cells.push, cells.Of. -/
namespace Go.Proofs.YthfpmhnnjjikcaaGreatDoor
open Go Go.RowKit Go.Lib
set_option linter.unusedVariables false
/-- A cell that isn't too great. -/
structure FitC (e : C5) : Prop where
  t : e.2.1.size ≤ 1048576
  v : e.2.2.1.2.2.size ≤ 1048576
  A : ∀ q ∈ e.2.2.2, q.1.size ≤ 1048576 ∧ q.2.2.2.size ≤ 1048576
  n : e.2.2.2.length ≤ 1048576
theorem enc_le4 (z : Int) : (encodeRune z).length ≤ 4 := by
  unfold encodeRune encodeRuneZ
  repeat' split
  all_goals simp
theorem FitC.fit {e : C5} (h : FitC e) : Fit (opOf e) := by
  obtain ⟨k, t, v, A⟩ := e
  unfold opOf
  split
  · exact ⟨Nat.le_trans h.t (by decide), h.v, h.A, h.n⟩
  · refine ⟨?_, ?_, h.A, h.n⟩
    · have := enc_le4 ((Int.toNat k : Nat) : Int)
      show (⟨(enc k.toNat).toArray⟩ : ByteArray).size ≤ _
      have e2 : (⟨(enc k.toNat).toArray⟩ : ByteArray).size = (enc k.toNat).length := by simp [ByteArray.size]
      rw [e2]
      unfold enc
      omega
    · show (0 : Nat) ≤ _; omega
set_option maxHeartbeats 2000000 in
theorem pushC_bad {I : List Nat} {a : Nat → Addr} (g : Nat) (e : C5) (p : Option Addr) (l c : Nat) (w : World) (hI : ∀ i ∈ IxO, i ∈ I) (hS : Std I a w) (h : badC e) :
    Calls Tryz.prog 113 #[.pointer (some ⟨g, 0, none⟩), ceP e (.slice p l c)] w fun r w' => r = .returned (errV a 4) ∧ Below w.heap.size w w' := by
  have b0 := (Below.refl w.heap.size w).alloc (Nat.le_refl _) (.cells (ceA e (.slice p l c)) 84)
  have c1 := insertC_bad e p l c (w.alloc (.cells (ceA e (.slice p l c)) 84)) (hI 4 (by simp)) (hS.below b0) h
  obtain ⟨k, t, ⟨x, n, u⟩, A⟩ := e
  simp only [ceA] at b0 c1
  clear hS hI h
  go_enter Tryz.func113, Tryz.ntmps113
  go_wp2_with fail
  refine c1.mono ?_; rintro r w2 ⟨rfl, hb2⟩
  have b2 := b0.trans (hb2.mono b0.size)
  clear c1 hb2 b0
  go_wp2
  go_ret
  exact ⟨rfl, b2.alloc b2.size _⟩
set_option maxHeartbeats 2000000 in
theorem pushC_no {I : List Nat} {a : Nat → Addr} (g : Nat) (e : C5) (p : Option Addr) (l c : Nat) (w : World) (hI : ∀ i ∈ IxO, i ∈ I) (hS : Std I a w) (hR : RN w (.slice p l c) e.2.2.2) (hF : FitC e) (x : Nat) (h : celE e = x + 1) :
    Calls Tryz.prog 113 #[.pointer (some ⟨g, 0, none⟩), ceP e (.slice p l c)] w fun r w' => r = .returned (errV a x) ∧ Below w.heap.size w w' := by
  by_cases hb : badC e
  · rw [celE_bad hb] at h
    obtain rfl : x = 4 := by omega
    exact pushC_bad g e p l c w hI hS hb
  rw [celE_op hb] at h
  have b0 := (Below.refl w.heap.size w).alloc (Nat.le_refl _) (.cells (ceA e (.slice p l c)) 84)
  have c1 := insertC_op e p l c (w.alloc (.cells (ceA e (.slice p l c)) 84)) hb
  have cP : Hid (∀ W, Below w.heap.size w W → Calls Tryz.prog 29 #[.pointer (some ⟨g, 0, none⟩), opV (opOf e) (.slice p l c)] W fun r w' => r = .returned (errV a x) ∧ Below W.heap.size W w') := fun W hW =>
    pushB_no g (opOf e) p l c W hI (hS.below hW) (by rw [opOf_A]; exact hR.below hW) hF.fit x h
  obtain ⟨o, ho⟩ : ∃ o, opOf e = o := ⟨_, rfl⟩
  rw [ho] at c1 cP
  obtain ⟨ok, ot, ⟨ox, on, ou⟩, oc, oA⟩ := o
  obtain ⟨k, t, ⟨y, n, u⟩, A⟩ := e
  simp only [ceA] at b0 c1
  clear hS hI h hR hF hb ho
  go_enter Tryz.func113, Tryz.ntmps113
  go_wp2_with fail
  refine c1.mono ?_; rintro r w2 ⟨rfl, hb2⟩
  have b2 := b0.trans (hb2.mono b0.size)
  have b3 := b2.alloc b2.size (.cells #[.int .i64 ok, .string ot, .int .i64 ox, .int .i64 on, .string ou, .int .i64 oc, .slice p l c] 33)
  have c3 := cP.out _ b3
  clear c1 hb2 b0 cP
  go_wp2_with fail
  refine c3.mono ?_; rintro r w4 ⟨rfl, hb4⟩
  have b4 := b3.trans (hb4.mono b3.size)
  clear c3 hb4
  go_wp2
  go_ret
  exact ⟨rfl, b4⟩
set_option maxHeartbeats 2000000 in
theorem pushC_ok {I : List Nat} {a : Nat → Addr} {B g : Nat} {D : Nat → Prop} {F : List Op5} (e : C5) (p : Option Addr) (l c : Nat) (w : World) (hI : ∀ i ∈ IxO, i ∈ I) (hS : Std I a w) (hR : RN w (.slice p l c) e.2.2.2) (hF : FitC e) (hb : ¬ badC e) (h : Gath w B D g F) (hE : OkE (F ++ [opOf e])) (hD : ∀ k, D k → k < w.heap.size) :
    Calls Tryz.prog 113 #[.pointer (some ⟨g, 0, none⟩), ceP e (.slice p l c)] w fun r w' => r = .returned .nilIface ∧ Gath w' B D g (F ++ [opOf e]) ∧ FrB B D w w' := by
  have hBw : B ≤ w.heap.size := by have := BldE.lo h; omega
  have b0 := (Below.refl w.heap.size w).alloc (Nat.le_refl _) (.cells (ceA e (.slice p l c)) 84)
  have c1 := insertC_op e p l c (w.alloc (.cells (ceA e (.slice p l c)) 84)) hb
  have cP : Hid (∀ W, Below w.heap.size w W → Calls Tryz.prog 29 #[.pointer (some ⟨g, 0, none⟩), opV (opOf e) (.slice p l c)] W fun r w' => r = .returned .nilIface ∧ Gath w' B D g (F ++ [opOf e]) ∧ FrB B D w w') := fun W hW =>
    (pushB_ok (opOf e) p l c W hI (hS.below hW) (by rw [opOf_A]; exact hR.below hW) hF.fit (BldE.below h hW) hE (fun k hk => Nat.lt_of_lt_of_le (hD k hk) hW.size)).mono (by
      rintro r w' ⟨h1, h2, h3⟩
      exact ⟨h1, h2, (FrB.of_below hW hBw).trans h3⟩)
  obtain ⟨G, hG⟩ : ∃ G, F ++ [opOf e] = G := ⟨_, rfl⟩
  rw [hG] at cP ⊢
  obtain ⟨o, ho⟩ : ∃ o, opOf e = o := ⟨_, rfl⟩
  rw [ho] at c1 cP
  obtain ⟨ok, ot, ⟨ox, on, ou⟩, oc, oA⟩ := o
  obtain ⟨k, t, ⟨y, n, u⟩, A⟩ := e
  simp only [ceA] at b0 c1
  clear hS hI h hR hF hb ho hG hE hD hBw
  go_enter Tryz.func113, Tryz.ntmps113
  go_wp2_with fail
  refine c1.mono ?_; rintro r w2 ⟨rfl, hb2⟩
  have b2 := b0.trans (hb2.mono b0.size)
  have b3 := b2.alloc b2.size (.cells #[.int .i64 ok, .string ot, .int .i64 ox, .int .i64 on, .string ou, .int .i64 oc, .slice p l c] 33)
  have c3 := cP.out _ b3
  clear c1 hb2 b0 cP b2 b3
  go_wp2_with fail
  refine c3.mono ?_; rintro r w4 ⟨rfl, hg, hf⟩
  have HG : Hid (Gath w4 B D g G ∧ FrB B D w w4) := ⟨hg, hf⟩
  clear c3 hg hf
  go_wp2
  go_ret
  exact ⟨rfl, HG.out.1, HG.out.2⟩
end Go.Proofs.YthfpmhnnjjikcaaGreatDoor

/- cells.Of of any list of cells. -/
namespace Go.Proofs.YthfpmhnnjjikcaaGreatDoor
open Go Go.RowKit Go.Lib
set_option linter.unusedVariables false
/-- The number of the first cell that isn't good, and its error. -/
def celP : List C5 → Nat × Nat
  | [] => (0, 0)
  | o :: r => if celE o ≠ 0 then (0, celE o) else if (celP r).2 = 0 then (0, 0) else ((celP r).1 + 1, (celP r).2)
theorem cel_none : ∀ {E : List C5}, (∀ o ∈ E, celE o = 0) → celP E = (0, 0)
  | [], _ => rfl
  | o :: r, h => by
    have := cel_none (E := r) fun x hx => h x (List.mem_cons_of_mem _ hx)
    rw [celP, if_neg (by simpa using h o (List.mem_cons_self ..)), this]
    rfl
theorem cel_at : ∀ {E : List C5} {k : Nat} {o : C5}, E[k]? = some o → (∀ x ∈ E.take k, celE x = 0) → celE o ≠ 0 → celP E = (k, celE o)
  | [], k, o, h, _, _ => by simp at h
  | x :: r, 0, o, h, _, he => by
    obtain rfl : x = o := by simpa using h
    rw [celP, if_pos he]
  | x :: r, k + 1, o, h, hg, he => by
    have := cel_at (E := r) (k := k) (by simpa using h) (fun y hy => hg y (by rw [List.take_succ_cons]; exact List.mem_cons_of_mem _ hy)) he
    rw [celP, if_neg (by simpa using hg x (by rw [List.take_succ_cons]; exact List.mem_cons_self ..)), this, if_neg he]
theorem len5_op {e : C5} (h : celE e = 0) : len5 (opOf e) = 1 := by
  have hg := good_iff.1 h
  obtain ⟨_, hu, hk⟩ := opOf_good hg
  obtain ⟨k, t, v, A⟩ := e
  unfold len5
  rw [if_pos hk]
  unfold lenO
  rcases hg.1 with ⟨h1, _⟩ | ⟨r, h1, h2, h3, h4⟩
  · simp only at h1
    subst h1
    rw [if_neg (by rw [opOf_k]; simp)]; rfl
  · simp only at h1 h3 h4
    subst h1; subst h3; subst h4
    rw [opOf_scal h2, if_pos rfl, enc_scs h2]; rfl
theorem sums_cells : ∀ (F : List C5), (∀ e ∈ F, celE e = 0) → sumB (F.map opOf) = 0 ∧ sumR (F.map opOf) = F.length
  | [], _ => ⟨rfl, rfl⟩
  | e :: F, h => by
    obtain ⟨h1, h2⟩ := sums_cells F fun x hx => h x (List.mem_cons_of_mem _ hx)
    have he := h e (List.mem_cons_self ..)
    have hk := (opOf_good (good_iff.1 he)).2.2
    rw [List.map_cons, sumB_cons, sumR_cons, h1, h2, base_1 hk]
    have : resO (opOf e) = 1 := by unfold resO; rw [if_neg (by omega), len5_op he]
    rw [this]
    exact ⟨rfl, by rw [List.length_cons]; omega⟩
theorem not_bad {e : C5} (h : celE e = 0) : ¬ badC e := fun hb => by rw [celE_bad hb] at h; cases h
theorem okE_cells {F : List C5} (h : ∀ e ∈ F, celE e = 0) (hF : ∀ e ∈ F, FitC e) (ht : txtS (F.map opOf) ≤ 8388608) (hl : F.length ≤ 1048576) : OkE (F.map opOf) := by
  obtain ⟨h1, h2⟩ := sums_cells F h
  refine ⟨fun o ho => ?_, fun o ho => ?_, ht, by rw [List.length_map]; omega, by rw [h1]; decide, by rw [h2]; omega⟩
  · obtain ⟨e, he, rfl⟩ := List.mem_map.1 ho
    have := h e he
    rwa [celE_op (not_bad this)] at this
  · obtain ⟨e, he, rfl⟩ := List.mem_map.1 ho
    exact (hF e he).fit.fitA
set_option maxHeartbeats 4000000 in
set_option maxRecDepth 100000 in
theorem ofC_any {I : List Nat} {a : Nat → Addr} (v : Value) (D0 : List CV) (E : List C5) (w : World) (hI : ∀ i ∈ IxO, i ∈ I) (hS : Std I a w) (hrow : RowC w v D0) (hre : Are w D0 E) (hF : ∀ e ∈ E, FitC e) (hl : E.length ≤ 1048576) (ht : txtS (E.map opOf) ≤ 8388608) :
    Calls Tryz.prog 82 #[v] w fun r w' => ∃ dv, r = .returned (.tuple #[dv, .int .i64 (celP E).1, errOf a (celP E).2]) ∧ ((celP E).2 = 0 → DelV w' w.heap.size w.heap.size dv (docOf E)) ∧ ((celP E).2 ≠ 0 → dv = .pointer none) ∧ Below w.heap.size w w' := by
  have hDE := forall2_len hre
  obtain ⟨n, hn⟩ : ∃ n, D0.length = n := ⟨_, rfl⟩
  obtain ⟨p, cap, rfl, hcap, hnz, hc⟩ := hrow
  have cN := new_any (B := w.heap.size) (D := fun k => k < w.heap.size) w (Nat.le_refl _) (by omega)
  have HC : Hid (D0 ≠ [] → ∃ b off, p = some ⟨b, off, none⟩ ∧ InC w b off D0) := hc
  have HN : Hid (D0.length = n ∧ E.length = n) := ⟨hn, by rw [← hDE, hn]⟩
  have hl : n ≤ 1048576 := by rw [← hn, hDE]; exact hl
  have HF : Hid ((∀ e ∈ E, FitC e) ∧ txtS (E.map opOf) ≤ 8388608) := ⟨hF, ht⟩
  have HK : Hid (∀ W (k : Nat) d e, Below w.heap.size w W → D0[k]? = some d → E[k]? = some e → ∀ g, (∀ x, celE e = x + 1 → Calls Tryz.prog 113 #[.pointer (some ⟨g, 0, none⟩), ceV d] W fun r w' => r = .returned (errV a x) ∧ Below W.heap.size W w') ∧ (∀ F, ¬ badC e → Gath W w.heap.size (fun k => k < w.heap.size) g F → OkE (F ++ [opOf e]) → Calls Tryz.prog 113 #[.pointer (some ⟨g, 0, none⟩), ceV d] W fun r w' => r = .returned .nilIface ∧ Gath w' w.heap.size (fun k => k < w.heap.size) g (F ++ [opOf e]) ∧ FrB w.heap.size (fun k => k < w.heap.size) W w')) := fun W k d e hW h1 h2 g => by
    obtain ⟨y, hy, r1⟩ := forall2_get hre k d h1
    obtain rfl : y = e := Option.some.inj (hy.symm.trans h2)
    have fy := hF y (List.mem_of_getElem? hy)
    have hR := r1.2.2.2.below hW
    have hv : ceV d = ceP y (.slice d.2.2.2.1 d.2.2.2.2.1 d.2.2.2.2.2) := by
      obtain ⟨dk, dt, dv, ds⟩ := d
      obtain ⟨x1, x2, x3, _⟩ := r1
      simp only at x1 x2 x3
      subst x1; subst x2; subst x3; rfl
    rw [hv]
    exact ⟨fun x hx => pushC_no g y _ _ _ W hI (hS.below hW) hR fy x hx, fun F hb hG hO => pushC_ok y _ _ _ W hI (hS.below hW) hR fy hb hG hO (fun k hk => Nat.lt_of_lt_of_le hk hW.size)⟩
  have HE : Hid (∀ k d, D0[k]? = some d → ∃ e, E[k]? = some e) := fun k d h => by obtain ⟨y, hy, _⟩ := forall2_get hre k d h; exact ⟨y, hy⟩
  obtain ⟨g, hgs⟩ : ∃ g, w.heap.size = g := ⟨_, rfl⟩
  have cN' : Calls Tryz.prog 9 #[] w fun e w' => e = .returned (.pointer (some ⟨g, 0, none⟩)) ∧ Gath w' w.heap.size (fun k => k < w.heap.size) g [] ∧ Below w.heap.size w w' := by rw [← hgs]; exact cN
  rw [hn] at hcap ⊢
  clear hc hn hDE hre hnz hF hS ht cN hgs
  go_enter Tryz.func82, Tryz.ntmps82
  go_wp2_with fail
  refine cN'.mono ?_; rintro r w1 ⟨rfl, hg1, hb1⟩
  have HG1 : Hid (Gath w1 w.heap.size (fun k => k < w.heap.size) g []) := hg1
  clear cN' hg1
  go_wp2
  go_loopw [12] (fun i wr => ∃ (k : Nat), k ≤ n ∧ i = .int .i64 k ∧ Hid (Gath wr w.heap.size (fun k => k < w.heap.size) g ((E.take k).map opOf)) ∧ Hid (∀ e ∈ E.take k, celE e = 0) ∧ Below w.heap.size w wr) (fun i _ => n - (RowKit.intOf i).toNat)
  case atStart => exact ⟨0, Nat.zero_le _, rfl, by rw [List.take_zero]; exact HG1, fun e he => (by rw [List.take_zero] at he; cases he), hb1⟩
  case round =>
    clear HG1 hb1
    obtain ⟨k, hk, rfl, HG, HO, hbw⟩ := hrel
    by_cases hlt : k < n
    · have hltI : (k : Int) < n := by omega
      obtain ⟨d, hd⟩ : ∃ d, D0[k]? = some d := ⟨_, List.getElem?_eq_getElem (by rw [HN.out.1]; exact hlt)⟩
      obtain ⟨e, he⟩ := HE.out k d hd
      obtain ⟨b, off, rfl, hin⟩ := HC.out (by intro e; rw [e] at hd; simp at hd)
      obtain ⟨x0, x1, x2, x3, x4, x5⟩ := cellsC_get D0 k d hd
      have c0 := (hin.below hbw) _ _ x0
      have c1 := (hin.below hbw) _ _ x1
      have c2 := (hin.below hbw) _ _ x2
      have c3 := (hin.below hbw) _ _ x3
      have c4 := (hin.below hbw) _ _ x4
      have c5 := (hin.below hbw) _ _ x5
      simp only [← Nat.add_assoc] at c0 c1 c2 c3 c4 c5
      have bw : Below wr.heap.size wr (wr.alloc (.cells (ceC d) 84)) := (Below.refl _ _).alloc (Nat.le_refl _) _
      have ba : Below w.heap.size w (wr.alloc (.cells (ceC d) 84)) := hbw.trans (bw.mono hbw.size)
      obtain ⟨cB, cG⟩ := HK.out _ k d e ba hd he g
      have HGa : Hid (Gath (wr.alloc (.cells (ceC d) 84)) w.heap.size (fun k => k < w.heap.size) g ((E.take k).map opOf)) := BldE.below HG.out bw
      have HT : Hid (E.take (k + 1) = E.take k ++ [e] ∧ E[k]? = some e) := by refine ⟨?_, he⟩; rw [List.take_add_one, he]; rfl
      obtain ⟨rz, hrz⟩ : ∃ z, celE e = z := ⟨_, rfl⟩
      cases rz with
      | zero =>
        have HO2 : Hid (∀ e ∈ E.take (k + 1), celE e = 0) := by
          show ∀ e ∈ E.take (k + 1), celE e = 0
          rw [HT.out.1]
          intro y hy
          rcases List.mem_append.1 hy with hy | hy
          · exact HO.out y hy
          · rw [List.mem_singleton.1 hy]; exact hrz
        have hok : OkE ((E.take k).map opOf ++ [opOf e]) := by
          have := okE_cells HO2.out (fun y hy => HF.out.1 y (List.mem_of_mem_take hy)) (by rw [List.map_take]; exact Nat.le_trans (txtS_take _ _) HF.out.2) (by rw [List.length_take]; omega)
          rwa [HT.out.1, List.map_append] at this
        have cP := cG ((E.take k).map opOf) (not_bad hrz) HGa.out hok
        have hm : (E.take k).map opOf ++ [opOf e] = (E.take (k + 1)).map opOf := by rw [HT.out.1, List.map_append]; rfl
        rw [hm] at cP
        clear cB cG HG HGa HO hin hd he hrz HT hok hm x0 x1 x2 x3 x4 x5
        obtain ⟨dk, dt, ⟨dx, dn, du⟩, ds⟩ := d
        obtain ⟨dp, dl, dcap⟩ := ds
        simp only [slV, ceC, ceV] at c0 c1 c2 c3 c4 c5 cP ba bw
        go_wp2_with fail
        refine cP.mono ?_; rintro r w5 ⟨rfl, h5, f5⟩
        have b5 : Below w.heap.size w w5 := ba.trans f5.below
        have HG5 : Hid (Gath w5 w.heap.size (fun k => k < w.heap.size) g ((E.take (k + 1)).map opOf)) := h5
        clear cP c0 c1 c2 c3 c4 c5 ba bw h5 f5
        go_wp2
        go_roundw
        case rel => exact ⟨k + 1, by omega, by go_num, HG5, HO2, b5⟩
        case measure => simp [RowKit.intOf]; omega
      | succ x =>
        have HB : Hid (celP E = (k, x + 1)) := by
          have := cel_at he HO.out (by rw [hrz]; omega)
          rw [hrz] at this
          exact this
        have cP := cB x hrz
        clear cB cG HG HGa HO hin hd he hrz HT x0 x1 x2 x3 x4 x5
        obtain ⟨dk, dt, ⟨dx, dn, du⟩, ds⟩ := d
        obtain ⟨dp, dl, dcap⟩ := ds
        simp only [slV, ceC, ceV] at c0 c1 c2 c3 c4 c5 cP ba bw
        go_wp2_with fail
        refine cP.mono ?_; rintro r w5 ⟨rfl, hb5⟩
        have b5 := ba.trans (hb5.mono ba.size)
        clear cP c0 c1 c2 c3 c4 c5 ba bw hb5
        go_wp2
        go_ret3
        exact ⟨.pointer none, by rw [HB.out]; rfl, fun h => (by rw [HB.out] at h; cases h), fun _ => rfl, b5⟩
    · have hltI : ¬ (k : Int) < n := by omega
      have hE : E.take k = E := List.take_of_length_le (by rw [HN.out.2]; omega)
      rw [hE] at HG HO
      have HB : Hid (celP E = (0, 0)) := cel_none HO.out
      have cD := delta_any wr HG.out (okE_cells HO.out HF.out.1 HF.out.2 (by rw [HN.out.2]; exact hl))
      clear hE HG HO
      go_wp2_with fail
      refine cD.mono ?_; rintro r w5 ⟨dv, rfl, h5, hb5⟩
      have H5 : Hid (DelV w5 w.heap.size w.heap.size dv (docOf E)) := by
        obtain ⟨q, pv, PL, x1, x2, x3, x4, x5⟩ := h5
        exact ⟨q, pv, PL, x1, Nat.le_trans hbw.size x2, x3, own_weaken x4 hbw.size, x5⟩
      have b5 := hbw.trans (hb5.mono hbw.size)
      clear cD h5 hb5
      go_wp2
      go_ret3
      exact ⟨dv, by rw [HB.out]; rfl, fun _ => H5.out, fun h => absurd (by rw [HB.out]) h, b5⟩
end Go.Proofs.YthfpmhnnjjikcaaGreatDoor

/- The document's deltas: Same, SameOp, Insert, Len. -/
namespace Go.Proofs.YthfpmhnnjjikcaaGreatDoor
open Go Go.RowKit Go.Lib
set_option linter.unusedVariables false
set_option maxHeartbeats 1000000 in
theorem same6o_any (o o' : Op5) (s s' : Value) (w : World) (hA : RowA w s o.A) (hB : RowA w s' o'.A) (hl : o.A.length ≤ 4194304) (hl2 : o'.A.length ≤ 4194304) :
    Calls Tryz.prog 96 #[opV o s, opV o' s'] w fun r w' => r = .returned (.bool (decide (o = o'))) ∧ Below w.heap.size w w' := by
  have b0 := ((Below.refl w.heap.size w).alloc (Nat.le_refl _) (.cells (opC o s) 33)).alloc (by simp) (.cells (opC o' s') 33)
  have cS := from_below b0 (refSame_any s s' o.A o'.A _ (hA.below b0) (hB.below b0) (by omega) (by omega))
  obtain ⟨pa, ca, rfl, _⟩ := hA.val
  obtain ⟨pb, cb, rfl, _⟩ := hB.val
  obtain ⟨k, t, ⟨x, n, u⟩, c, A⟩ := o
  obtain ⟨k', t', ⟨x', n', u'⟩, c', A'⟩ := o'
  simp only at cS
  simp only [opC] at b0 cS
  clear hA hB hl hl2
  have gd := fun op e e' w => guard_pl op e e' (x, n, u) (x', n', u') w
  by_cases hk : k = k'
  · subst hk
    by_cases ht : t = t'
    · subst ht
      have q1 := beq_key (x := t) (y := t) true (decide_eq_true rfl)
      by_cases hv : ((x, n, u) : P3) = (x', n', u')
      · have hne := eql_pl (x, n, u) (x', n', u') true (by rw [hv, samP_self])
        by_cases hc : c = c'
        · subst hc
          have hd : decide (({ k := k, t := t, v := (x, n, u), c := c, A := A } : Op5) = { k := k, t := t, v := (x', n', u'), c := c, A := A' }) = decide (A = A') := by
            simp only [Op5.mk.injEq, true_and, hv]
          rw [hd]
          generalize decide (A = A') = R at cS ⊢
          clear hd hv
          go_enter Tryz.func96, Tryz.ntmps96
          go_wp2_with fail
          refine cS.mono ?_; rintro r w2 ⟨rfl, hb2⟩
          go_wp2
          go_ret
          exact ⟨rfl, hb2⟩
        · rw [decide_eq_false (by intro e; exact hc (congrArg Op5.c e))]
          have hcc : (c == c') = false := by simpa using hc
          clear cS hv hc
          go_enter Tryz.func96, Tryz.ntmps96
          go_wp2
          go_ret
          exact ⟨rfl, b0⟩
      · rw [decide_eq_false (by intro e; exact hv (congrArg Op5.v e))]
        have hne := eql_pl (x, n, u) (x', n', u') false (samP_ne hv)
        clear cS hv
        go_enter Tryz.func96, Tryz.ntmps96
        go_wp2
        go_ret
        exact ⟨rfl, b0⟩
    · rw [decide_eq_false (by intro e; exact ht (congrArg Op5.t e))]
      have q1 := beq_key (x := t) (y := t') false (decide_eq_false ht)
      clear cS ht gd
      go_enter Tryz.func96, Tryz.ntmps96
      go_wp2
      go_ret
      exact ⟨rfl, b0⟩
  · rw [decide_eq_false (by intro e; exact hk (congrArg Op5.k e))]
    have hkk : (k == k') = false := by simpa using hk
    clear cS hk gd
    go_enter Tryz.func96, Tryz.ntmps96
    go_wp2
    go_ret
    exact ⟨rfl, b0⟩

set_option maxHeartbeats 2000000 in
set_option maxRecDepth 100000 in
theorem same6_any (v v' : Value) (E E' : List Op5) (w : World) (h : ReO w v E) (h' : ReO w v' E') (hl : E.length ≤ 2097152) (hl' : E'.length ≤ 2097152) (hA : ∀ e ∈ E, e.A.length ≤ 1048576) (hA' : ∀ e ∈ E', e.A.length ≤ 1048576) :
    Calls Tryz.prog 62 #[v, v'] w fun r w' => r = .returned (.bool (decide (E = E'))) ∧ Below w.heap.size w w' := by
  obtain ⟨D, hrow, hre⟩ := h
  obtain ⟨D', hrow', hre'⟩ := h'
  have hE := forall2_len hre
  have hE' := forall2_len hre'
  obtain ⟨n, hn⟩ : ∃ n, D.length = n := ⟨_, rfl⟩
  obtain ⟨m, hm⟩ : ∃ m, D'.length = m := ⟨_, rfl⟩
  obtain ⟨pa, ca, rfl, ha, _, hca⟩ := hrow
  obtain ⟨pb, cb, rfl, hb, _, hcb⟩ := hrow'
  rw [hn] at ha hE ⊢
  rw [hm] at hb hE' ⊢
  have HN : Hid (D.length = n ∧ D'.length = m ∧ E.length = n ∧ E'.length = m) := ⟨hn, hm, hE.symm, hE'.symm⟩
  by_cases hnm : n = m
  · subst hnm
    have HA : Hid (∀ (j : Nat) (d : OV), D[j]? = some d → ∃ b off, pa = some ⟨b, off, none⟩ ∧ OpAt w b (off + j * 7) d) := hca
    have HB : Hid (∀ (j : Nat) (d : OV), D'[j]? = some d → ∃ b off, pb = some ⟨b, off, none⟩ ∧ OpAt w b (off + j * 7) d) := hcb
    have hl : n ≤ 2097152 := by omega
    have CC : Hid (∀ (k : Nat) d d', D[k]? = some d → D'[k]? = some d' → ∃ e e', E[k]? = some e ∧ E'[k]? = some e' ∧ ∀ W, Below w.heap.size w W → Calls Tryz.prog 96 #[ovV d, ovV d'] W fun r w' => r = .returned (.bool (decide (e = e'))) ∧ Below W.heap.size W w') := fun k d d' h1 h2 => by
      obtain ⟨y, hy, r1⟩ := forall2_get hre k d h1
      obtain ⟨y', hy', r2⟩ := forall2_get hre' k d' h2
      refine ⟨y, y', hy, hy', fun W hW => ?_⟩
      rw [opV_of r1, opV_of r2]
      have h3 := hA y (List.mem_of_getElem? hy)
      have h4 := hA' y' (List.mem_of_getElem? hy')
      exact same6o_any y y' _ _ W (r1.2.2.2.2.below hW).row (r2.2.2.2.2.below hW).row (by omega) (by omega)
    clear hca hcb hn hm hre hre' hE hE' hA hA' hl'
    go_enter Tryz.func62, Tryz.ntmps62
    go_wp2
    go_loopw [13] (fun i wr => ∃ (k : Nat), k ≤ n ∧ i = .int .i64 k ∧ Hid (E.take k = E'.take k) ∧ Below w.heap.size w wr) (fun i _ => n - (RowKit.intOf i).toNat)
    case atStart => exact ⟨0, Nat.zero_le _, rfl, rfl, Below.refl _ _⟩
    case round =>
      obtain ⟨k, hk, rfl, HT, hbw⟩ := hrel
      by_cases hlt : k < n
      · have hltI : (k : Int) < n := by omega
        obtain ⟨d, hd⟩ : ∃ q, D[k]? = some q := ⟨_, List.getElem?_eq_getElem (by rw [HN.out.1]; exact hlt)⟩
        obtain ⟨d', hd'⟩ : ∃ q, D'[k]? = some q := ⟨_, List.getElem?_eq_getElem (by rw [HN.out.2.1]; exact hlt)⟩
        obtain ⟨e, e', he, he', cc⟩ := CC.out k d d' hd hd'
        obtain ⟨b, off, rfl, hin⟩ := HA.out k d hd
        obtain ⟨b', off', rfl, hin'⟩ := HB.out k d' hd'
        obtain ⟨c0, c1, c2, c3, c4, c5, c6⟩ := hin.below hbw
        obtain ⟨d0, d1, d2, d3, d4, d5, d6⟩ := hin'.below hbw
        have HEE : Hid (E[k]? = some e ∧ E'[k]? = some e') := ⟨he, he'⟩
        clear hin hin' hd hd' he he'
        obtain ⟨f, t, ⟨x, z, u⟩, cc1, p, j, c⟩ := d
        obtain ⟨f', t', ⟨x', z', u'⟩, cc1', p', j', c'⟩ := d'
        simp only [slV] at c0 c1 c2 c3 c4 c5 c6 d0 d1 d2 d3 d4 d5 d6
        simp only [ovV, ovC, slV] at cc
        have HU : Hid (∀ w', Below wr.drew.heap.size wr.drew w' → (w'.cell? ⟨b, off + k * 7, none⟩ = some (.int .i64 f) ∧ w'.cell? ⟨b, off + k * 7 + 1, none⟩ = some (.string t) ∧ w'.cell? ⟨b, off + k * 7 + 2, none⟩ = some (.int .i64 x) ∧ w'.cell? ⟨b, off + k * 7 + 3, none⟩ = some (.int .i64 z) ∧ w'.cell? ⟨b, off + k * 7 + 4, none⟩ = some (.string u) ∧ w'.cell? ⟨b, off + k * 7 + 5, none⟩ = some (.int .i64 cc1) ∧ w'.cell? ⟨b, off + k * 7 + 6, none⟩ = some (.slice p j c) ∧ w'.cell? ⟨b', off' + k * 7, none⟩ = some (.int .i64 f') ∧ w'.cell? ⟨b', off' + k * 7 + 1, none⟩ = some (.string t') ∧ w'.cell? ⟨b', off' + k * 7 + 2, none⟩ = some (.int .i64 x') ∧ w'.cell? ⟨b', off' + k * 7 + 3, none⟩ = some (.int .i64 z') ∧ w'.cell? ⟨b', off' + k * 7 + 4, none⟩ = some (.string u') ∧ w'.cell? ⟨b', off' + k * 7 + 5, none⟩ = some (.int .i64 cc1') ∧ w'.cell? ⟨b', off' + k * 7 + 6, none⟩ = some (.slice p' j' c'))) := fun w' hb => ⟨(hb.cell (lt_of_cell (w := wr.drew) c0)).trans c0, (hb.cell (lt_of_cell (w := wr.drew) c1)).trans c1, (hb.cell (lt_of_cell (w := wr.drew) c2)).trans c2, (hb.cell (lt_of_cell (w := wr.drew) c3)).trans c3, (hb.cell (lt_of_cell (w := wr.drew) c4)).trans c4, (hb.cell (lt_of_cell (w := wr.drew) c5)).trans c5, (hb.cell (lt_of_cell (w := wr.drew) c6)).trans c6, (hb.cell (lt_of_cell (w := wr.drew) d0)).trans d0, (hb.cell (lt_of_cell (w := wr.drew) d1)).trans d1, (hb.cell (lt_of_cell (w := wr.drew) d2)).trans d2, (hb.cell (lt_of_cell (w := wr.drew) d3)).trans d3, (hb.cell (lt_of_cell (w := wr.drew) d4)).trans d4, (hb.cell (lt_of_cell (w := wr.drew) d5)).trans d5, (hb.cell (lt_of_cell (w := wr.drew) d6)).trans d6⟩
        have hz0 : w.heap.size ≤ wr.drew.heap.size := hbw.size
        obtain ⟨q, hq⟩ : ∃ q, decide (e = e') = q := ⟨_, rfl⟩
        rw [hq] at cc
        have HQ : Hid (decide (e = e') = q) := hq
        clear hq
        cases q with
        | true =>
          have HT2 : Hid (E.take (k + 1) = E'.take (k + 1)) := take_eq_snoc HT.out HEE.out.1 HEE.out.2 (of_decide_eq_true HQ.out)
          go_wp2_with fail
          go_region_held3 (fun w' => (w'.cell? ⟨b, off + k * 7, none⟩ = some (.int .i64 f) ∧ w'.cell? ⟨b, off + k * 7 + 1, none⟩ = some (.string t) ∧ w'.cell? ⟨b, off + k * 7 + 2, none⟩ = some (.int .i64 x) ∧ w'.cell? ⟨b, off + k * 7 + 3, none⟩ = some (.int .i64 z) ∧ w'.cell? ⟨b, off + k * 7 + 4, none⟩ = some (.string u) ∧ w'.cell? ⟨b, off + k * 7 + 5, none⟩ = some (.int .i64 cc1) ∧ w'.cell? ⟨b, off + k * 7 + 6, none⟩ = some (.slice p j c) ∧ w'.cell? ⟨b', off' + k * 7, none⟩ = some (.int .i64 f') ∧ w'.cell? ⟨b', off' + k * 7 + 1, none⟩ = some (.string t') ∧ w'.cell? ⟨b', off' + k * 7 + 2, none⟩ = some (.int .i64 x') ∧ w'.cell? ⟨b', off' + k * 7 + 3, none⟩ = some (.int .i64 z') ∧ w'.cell? ⟨b', off' + k * 7 + 4, none⟩ = some (.string u') ∧ w'.cell? ⟨b', off' + k * 7 + 5, none⟩ = some (.int .i64 cc1') ∧ w'.cell? ⟨b', off' + k * 7 + 6, none⟩ = some (.slice p' j' c')) ∧ Below w.heap.size w w')
            (exact ⟨by first | (with_reducible assumption) | (simp [*]; done), by first | (with_reducible assumption) | exact hbw.drew⟩)
            (first | (go_at_call 96; refine (cc _ ?_).mono ?_; (· first | assumption | exact hbw.drew | (apply And.right; assumption)); rintro r w3 ⟨rfl, b3⟩; have b4 : Below w.heap.size w w3 := (hbw.drew).trans (b3.mono hz0); have mm := HU.out _ b3))
          clear cc mm b3
          go_wp2
          go_roundw
          case rel => exact ⟨k + 1, by omega, by go_num, HT2, b4⟩
          case measure => simp [RowKit.intOf]; omega
        | false =>
          have hfin : Hid (decide (E = E') = false) := decide_eq_false (ne_at HEE.out.1 HEE.out.2 (of_decide_eq_false HQ.out))
          go_wp2_with fail
          go_region_held3 (fun w' => (w'.cell? ⟨b, off + k * 7, none⟩ = some (.int .i64 f) ∧ w'.cell? ⟨b, off + k * 7 + 1, none⟩ = some (.string t) ∧ w'.cell? ⟨b, off + k * 7 + 2, none⟩ = some (.int .i64 x) ∧ w'.cell? ⟨b, off + k * 7 + 3, none⟩ = some (.int .i64 z) ∧ w'.cell? ⟨b, off + k * 7 + 4, none⟩ = some (.string u) ∧ w'.cell? ⟨b, off + k * 7 + 5, none⟩ = some (.int .i64 cc1) ∧ w'.cell? ⟨b, off + k * 7 + 6, none⟩ = some (.slice p j c) ∧ w'.cell? ⟨b', off' + k * 7, none⟩ = some (.int .i64 f') ∧ w'.cell? ⟨b', off' + k * 7 + 1, none⟩ = some (.string t') ∧ w'.cell? ⟨b', off' + k * 7 + 2, none⟩ = some (.int .i64 x') ∧ w'.cell? ⟨b', off' + k * 7 + 3, none⟩ = some (.int .i64 z') ∧ w'.cell? ⟨b', off' + k * 7 + 4, none⟩ = some (.string u') ∧ w'.cell? ⟨b', off' + k * 7 + 5, none⟩ = some (.int .i64 cc1') ∧ w'.cell? ⟨b', off' + k * 7 + 6, none⟩ = some (.slice p' j' c')) ∧ Below w.heap.size w w')
            (exact ⟨by first | (with_reducible assumption) | (simp [*]; done), by first | (with_reducible assumption) | exact hbw.drew⟩)
            (first | (go_at_call 96; refine (cc _ ?_).mono ?_; (· first | assumption | exact hbw.drew | (apply And.right; assumption)); rintro r w3 ⟨rfl, b3⟩; have b4 : Below w.heap.size w w3 := (hbw.drew).trans (b3.mono hz0); have mm := HU.out _ b3))
          clear cc mm b3
          go_wp2
          go_ret
          exact ⟨by rw [hfin.out]; rfl, b4⟩
      · have hltI : ¬ (k : Int) < n := by omega
        have hfin : Hid (decide (E = E') = true) := decide_eq_true (by
          have := HT.out
          rwa [List.take_of_length_le (by rw [HN.out.2.2.1]; omega), List.take_of_length_le (by rw [HN.out.2.2.2]; omega)] at this)
        go_wp2
        go_ret
        exact ⟨by rw [hfin.out]; rfl, hbw⟩
  · have hne : ((n : Int) != m) = true := by simp; omega
    have hfin : Hid (decide (E = E') = false) := decide_eq_false (fun h => hnm (by rw [← HN.out.2.2.1, ← HN.out.2.2.2, h]))
    clear hca hcb hn hm hre hre' hE hE' hA hA' hnm HN hl hl'
    go_enter Tryz.func62, Tryz.ntmps62
    go_wp2
    go_ret
    exact ⟨by rw [hfin.out]; rfl, Below.refl _ _⟩

set_option maxHeartbeats 1000000 in
theorem ins6_any (o : Op5) (p : Option Addr) (l c : Nat) (w : World) : Calls Tryz.prog 49 #[opV o (.slice p l c)] w fun r w' => r = .returned (.bool (decide (o.k = 1 ∨ o.k = 2))) ∧ Below w.heap.size w w' := by
  obtain ⟨k, t, ⟨x, n, u⟩, cc, A⟩ := o
  simp only
  by_cases k1 : k = 1
  · subst k1
    rw [decide_eq_true (Or.inl rfl)]
    go_enter Tryz.func49, Tryz.ntmps49
    go_wp2
    go_ret
    exact ⟨rfl, by go_grown⟩
  · have e1 : (k == 1) = false := by simpa using k1
    by_cases k2 : k = 2
    · subst k2
      rw [decide_eq_true (Or.inr rfl)]
      go_enter Tryz.func49, Tryz.ntmps49
      go_wp2
      go_ret
      exact ⟨rfl, by go_grown⟩
    · have e2 : (k == 2) = false := by simpa using k2
      rw [decide_eq_false (by omega)]
      go_enter Tryz.func49, Tryz.ntmps49
      go_wp2
      go_ret
      exact ⟨rfl, by go_grown⟩
end Go.Proofs.YthfpmhnnjjikcaaGreatDoor

/- The document's deltas: push: an operation put behind others. -/
namespace Go.Proofs.YthfpmhnnjjikcaaGreatDoor
open Go Go.RowKit Go.Lib
set_option linter.unusedVariables false
theorem Hid.mk' {p : Prop} (h : p) : Hid p := h
end Go.Proofs.YthfpmhnnjjikcaaGreatDoor

/- vellumhand.Make, Is; vellumlaw06's gone, text, large, lives. -/
namespace Go.Proofs.YthfpmhnnjjikcaaGreatDoor
open Go Go.RowKit Go.Lib
set_option linter.unusedVariables false
set_option maxHeartbeats 1000000 in
theorem make_any {I : List Nat} {a : Nat → Addr} (v : Value) (E : List Op5) (w : World) (hI : ∀ i ∈ IxO, i ∈ I) (hS : Std I a w) (hv : ReO w v E) (hF : FitL E) (hl : E.length ≤ 1048576) (ht : txtS E ≤ 8388608) :
    Calls Tryz.prog 33 #[v] w fun r w' => ∃ dv, r = .returned dv ∧ ((ofE 0 0 E).2 = 0 → DelV w' w.heap.size w.heap.size dv (canonL E)) ∧ ((ofE 0 0 E).2 ≠ 0 → dv = .pointer none) ∧ Below w.heap.size w w' := by
  have c1 := buildOf_any v E w hI hS hv hF hl ht
  obtain ⟨D, ⟨p, cap, rfl, _, _, _⟩, hre⟩ := hv
  rw [forall2_len hre] at c1 ⊢
  clear hS hI hF hre ht
  obtain ⟨x, hx⟩ : ∃ x, ofE 0 0 E = x := ⟨_, rfl⟩
  rw [hx] at c1 ⊢
  clear hx
  obtain ⟨i, e⟩ := x
  obtain ⟨i1, hi1⟩ : ∃ z : Int, (i : Int) = z := ⟨_, rfl⟩
  simp only at c1 ⊢
  rw [hi1] at c1
  clear hi1
  cases e with
  | zero =>
    rw [errOf_zero] at c1
    go_enter Tryz.func33, Tryz.ntmps33
    go_wp2_with fail
    refine c1.mono ?_; rintro r w2 ⟨dv, rfl, hd, _, hb2⟩
    obtain ⟨q, pv, PL, rfl, hq⟩ := hd (by first | trivial | rfl)
    have HD : Hid (DelV w2 w.heap.size w.heap.size (.pointer (some ⟨q, 0, none⟩)) (canonL E)) := ⟨q, pv, PL, rfl, hq⟩
    clear c1 hd hq
    go_wp2
    go_ret
    exact ⟨_, rfl, fun _ => HD.out, fun h => absurd rfl h, hb2⟩
  | succ e =>
    rw [errOf_succ] at c1
    go_enter Tryz.func33, Tryz.ntmps33
    go_wp2_with fail
    refine c1.mono ?_; rintro r w2 ⟨dv, rfl, _, hd, hb2⟩
    obtain rfl := hd (by omega)
    clear c1 hd
    go_wp2
    go_ret
    exact ⟨_, rfl, fun h => (by cases h), fun _ => rfl, hb2⟩
/-- Lists that the calls read. -/
structure OkR (E : List Op5) : Prop where
  n : ∀ o ∈ E, o.A.length ≤ 1048576
  len : E.length ≤ 2097152
set_option maxHeartbeats 1000000 in
theorem is_any {B1 B2 : Nat} (d v : Value) (E F : List Op5) (w : World) (h : DelV w B1 B2 d E) (hg : ∀ o ∈ E, opE o = 0) (hE : OkR E) (hv : ReO w v F) (hF : OkR F) :
    Calls Tryz.prog 15 #[d, v] w fun r w' => r = .returned (.bool (decide (E = F))) ∧ Below w.heap.size w w' := by
  have c1 := ops_any d E w h hg (fun o ho => by have := hE.n o ho; omega) (by have := hE.len; omega)
  have c2 : Hid (∀ W v', Below w.heap.size w W → ReO W v' E → Calls Tryz.prog 62 #[v', v] W fun r w' => r = .returned (.bool (decide (E = F))) ∧ Below W.heap.size W w') := fun W v' hW h' => same6_any v' v E F W h' (hv.below hW) hE.len hF.len hE.n hF.n
  have c3 : Hid (∀ W, Below w.heap.size w W → Calls Tryz.prog 63 #[d] W fun e w' => e = .returned (.int .i64 E.length) ∧ Below W.heap.size W w') := fun W hW => count_any5 d E W (h.below hW)
  obtain ⟨q, pv, PL, rfl, _⟩ := h
  obtain ⟨D, ⟨p, cap, rfl, _, _, _⟩, hre⟩ := hv
  have hl := forall2_len hre
  rw [hl] at c2 ⊢
  obtain ⟨R, hR⟩ : ∃ x, decide (E = F) = x := ⟨_, rfl⟩
  rw [hR] at c2 ⊢
  have hlen : R = true → ((E.length : Int) == (F.length : Int)) = true := fun h => by
    rw [h] at hR
    rw [of_decide_eq_true hR]; simp
  clear hg hE hF hre hl hR
  go_enter Tryz.func15, Tryz.ntmps15
  go_wp2_with fail
  refine c1.mono ?_; rintro r w2 ⟨v', rfl, hco, hb2⟩
  have c4 := c2.out w2 v' hb2 hco.re
  clear c1 c2 hco
  go_wp2_with fail
  refine c4.mono ?_; rintro r w3 ⟨rfl, hb3⟩
  have b3 := hb2.trans (hb3.mono hb2.size)
  clear c4 hb2 hb3
  cases R with
  | true =>
    have c5 := c3.out w3 b3
    have hl2 := hlen rfl
    clear c3 hlen
    go_wp2_with fail
    refine c5.mono ?_; rintro r w4 ⟨rfl, hb4⟩
    have b4 := b3.trans (hb4.mono b3.size)
    clear c5 b3 hb4
    go_wp2
    go_ret
    exact ⟨rfl, b4⟩
  | false =>
    clear c3 hlen
    go_wp2
    go_ret
    exact ⟨rfl, b3⟩
/-- A text to insert. -/
def txtO (t : ByteArray) : Op5 := ⟨1, t, z0, 0, []⟩
end Go.Proofs.YthfpmhnnjjikcaaGreatDoor

/- vellumlaw06.lives answers true. -/
namespace Go.Proofs.YthfpmhnnjjikcaaGreatDoor
open Go Go.RowKit Go.Lib
set_option linter.unusedVariables false
/-- A row of operations laid at once. -/
theorem row_blk {w : World} {b : Nat} {D : List OV} (h : w.heap[b]? = some (.cells (cellsO D).toArray 33 (0, 0))) : RowO w (.slice (some ⟨b, 0, none⟩) D.length D.length) D := by
  refine ⟨some ⟨b, 0, none⟩, D.length, rfl, Nat.le_refl _, fun h => (by cases h), fun j d hd => ⟨b, 0, rfl, ?_⟩⟩
  obtain ⟨k0, k1, k2, k3, k4, k5, k6⟩ := cellsO_get D j d hd
  have e : ∀ i u, (cellsO D)[i]? = some u → w.cell? ⟨b, i, none⟩ = some u := fun i u hu => by
    rw [cell_of_heap h]
    rw [List.getElem?_toArray]
    exact hu
  rw [Nat.zero_add]
  exact ⟨e _ _ k0, e _ _ k1, e _ _ k2, e _ _ k3, e _ _ k4, e _ _ k5, e _ _ k6⟩
/-- An operation without attributes, as it lies in memory. -/
abbrev ovN (o : Op5) : OV := (o.k, o.t, o.v, o.c, (none, 0, 0))
theorem re_blk {w : World} {b : Nat} {E : List Op5} (h : w.heap[b]? = some (.cells (cellsO (E.map ovN)).toArray 33 (0, 0))) (hA : ∀ o ∈ E, o.A = []) : ReO w (.slice (some ⟨b, 0, none⟩) E.length E.length) E := by
  refine ⟨E.map ovN, ?_, ?_⟩
  · have := row_blk h
    rw [List.length_map] at this
    exact this
  · clear h
    induction E with
    | nil => exact .nil
    | cons o r ih =>
      refine .cons ⟨rfl, rfl, rfl, rfl, ?_⟩ (ih fun x hx => hA x (List.mem_cons_of_mem _ hx))
      rw [hA o (List.mem_cons_self ..)]
      exact RN.nil w
end Go.Proofs.YthfpmhnnjjikcaaGreatDoor

/- Canonical lists of operations in order are in order. -/
namespace Go.Proofs.YthfpmhnnjjikcaaGreatDoor
open Go Go.RowKit Go.Lib
set_option linter.unusedVariables false
theorem trim_sub (P : List Op5) : (∀ x ∈ trimL P, x ∈ P) ∧ txtS (trimL P) ≤ txtS P ∧ (trimL P).length ≤ P.length := by
  rcases List.eq_nil_or_concat P with rfl | ⟨F, x, rfl⟩
  · exact ⟨fun x h => h, Nat.le_refl _, Nat.le_refl _⟩
  · rw [List.concat_eq_append]
    have e : trimL (F ++ [x]) = if plainR x then F else F ++ [x] := by
      unfold trimL
      rw [List.getLast?_concat, List.dropLast_concat]
    rw [e]
    split
    · exact ⟨fun y h => List.mem_append_left _ h, by rw [txtS_append]; omega, by simp⟩
    · exact ⟨fun y h => h, Nat.le_refl _, Nat.le_refl _⟩
/-- The canonical list of operations in order is in order, and no greater. -/
theorem canon_ok {E : List Op5} (h : OkE E) : OkE (canonL E) ∧ txtS (canonL E) ≤ txtS E ∧ (canonL E).length ≤ E.length := by
  have hz : BSz (bldR E) E.length (txtS E) := by
    have := bldR_sz E BSz.nil h.fit
    rw [Nat.zero_add, Nat.zero_add] at this
    exact this
  obtain ⟨c1, c2, c3, c4⟩ := canon_spec h.wel
  obtain ⟨s1, s2⟩ := canon_sums h.wel
  have key : (∀ x ∈ canonL E, FitA x) ∧ txtS (canonL E) ≤ txtS E ∧ (canonL E).length ≤ E.length := by
    rw [← finB_canon h.wel]
    obtain ⟨a, b, c⟩ := hz.set
    have a2 := hz.fit
    have b2 := hz.txt
    have c2 := hz.len
    unfold finB
    by_cases h0 : 0 < (bldR E).2
    · rw [if_pos h0]
      unfold setB at a b c
      rw [if_pos h0] at a b c
      exact ⟨a, b, c⟩
    · rw [if_neg h0]
      obtain ⟨t1, t2, t3⟩ := trim_sub (bldR E).1
      exact ⟨fun x hx => a2 x (t1 x hx), by omega, by omega⟩
  have hb := h.base
  have hr := h.res
  have ht := h.txt
  have hl := h.len
  exact ⟨⟨wel_good c1 (by omega), key.1, by omega, by omega, by omega, by omega⟩, key.2⟩
end Go.Proofs.YthfpmhnnjjikcaaGreatDoor

/- The canonical list while it is made: sizes. -/
namespace Go.Proofs.YthfpmhnnjjikcaaGreatDoor
open Go Go.RowKit Go.Lib
set_option linter.unusedVariables false
theorem base_jn {x o : Op5} (hk : x.k = o.k) : baseO (jnO x o) = baseO x + baseO o ∨ o.k = 1 ∨ o.k = 2 := by
  by_cases h : o.k = 3 ∨ o.k = 4
  · left
    rw [base_3 h, base_3 (o := x) (by omega), base_3 (o := jnO x o) (by show x.k = 3 ∨ x.k = 4; omega)]
    rfl
  · by_cases h1 : o.k = 1
    · exact Or.inr (Or.inl h1)
    · by_cases h2 : o.k = 2
      · exact Or.inr (Or.inr h2)
      · left
        have e : ∀ y : Op5, y.k = o.k → baseO y = 0 := fun y hy => by unfold baseO; rw [if_neg (by omega)]
        rw [e x hk, e o rfl, e (jnO x o) hk]; rfl
/-- Lists of operations put together bit by bit: sizes. -/
structure PQ (P : List Op5) (T : Nat) (S : Int) (L : Nat) : Prop where
  wel : ∀ x ∈ P, Wel x ∧ x.A.length ≤ 1048576
  txt : txtS P ≤ T
  sum : sumB P ≤ S
  len : P.length ≤ L
theorem PQ.push {P : List Op5} {T L : Nat} {S : Int} {o : Op5} (h : PQ P T S L) (ho : Wel o) (hA : o.A.length ≤ 1048576) : PQ (pushL P o) (T + o.t.size) (S + baseO o) (L + 1) := by
  obtain ⟨s1, s2⟩ := push_size P o
  have h1 := h.txt
  have h2 := h.len
  have h3 := h.sum
  refine ⟨?_, by omega, ?_, by omega⟩
  · rcases List.eq_nil_or_concat P with rfl | ⟨F, x, rfl⟩
    · rw [push_nil]; intro y hy; rw [List.mem_singleton.1 hy]; exact ⟨ho, hA⟩
    · rw [List.concat_eq_append] at h ⊢
      by_cases hj : x.k ≠ o.k ∨ o.k = 2 ∨ x.A ≠ o.A
      · rw [push_apart hj]
        intro y hy
        rcases List.mem_append.1 hy with hy | hy
        · exact h.wel y hy
        · rw [List.mem_singleton.1 hy]; exact ⟨ho, hA⟩
      · rw [push_join hj]
        have hx := h.wel x (List.mem_append_right _ (List.mem_singleton.2 rfl))
        have hk : x.k = o.k := Decidable.byContradiction fun e => hj (Or.inl e)
        have h2' : o.k ≠ 2 := fun e => hj (Or.inr (Or.inl e))
        have hA' : x.A = o.A := Decidable.byContradiction fun e => hj (Or.inr (Or.inr e))
        intro y hy
        rcases List.mem_append.1 hy with hy | hy
        · exact h.wel y (List.mem_append_left _ hy)
        · rw [List.mem_singleton.1 hy]
          exact ⟨(join_wel hx.1 ho hk h2' hA').1, hx.2⟩
  · rcases List.eq_nil_or_concat P with rfl | ⟨F, x, rfl⟩
    · rw [push_nil, sumB_one]; have : sumB ([] : List Op5) = 0 := rfl; omega
    · rw [List.concat_eq_append] at h3 ⊢
      by_cases hj : x.k ≠ o.k ∨ o.k = 2 ∨ x.A ≠ o.A
      · rw [push_apart hj, sumB_append, sumB_one]; omega
      · rw [push_join hj, sumB_append, sumB_one]
        rw [sumB_append, sumB_one] at h3
        have hk : x.k = o.k := Decidable.byContradiction fun e => hj (Or.inl e)
        rcases base_jn hk with e | e | e
        · rw [e]; omega
        · rw [base_1 (o := jnO x o) (by show x.k = 1 ∨ x.k = 2; omega), base_1 (o := o) (Or.inl e)]
          rw [base_1 (o := x) (by omega)] at h3
          omega
        · exact absurd (Or.inr (Or.inl e)) hj
theorem PQ.up {P : List Op5} {T T' L L' : Nat} {S S' : Int} (h : PQ P T S L) (h1 : T ≤ T') (h2 : S ≤ S') (h3 : L ≤ L') : PQ P T' S' L' := ⟨h.wel, Nat.le_trans h.txt h1, Int.le_trans h.sum h2, Nat.le_trans h.len h3⟩
end Go.Proofs.YthfpmhnnjjikcaaGreatDoor

/- The document's op, Doc, Of, SameList of layer 9. -/
namespace Go.Proofs.YthfpmhnnjjikcaaGreatDoor
open Go Go.RowKit Go.Lib
set_option linter.unusedVariables false
instance instDecC5 : DecidableEq C5 := fun a b => by unfold C5 at a b; exact inferInstance
instance instDecLC5 : DecidableEq (List C5) := fun a b => by exact instDecidableEqList a b
theorem take_snoc9 {α : Type} {E E' : List α} {k : Nat} {e e' : α} (h : E.take k = E'.take k) (h1 : E[k]? = some e) (h2 : E'[k]? = some e') (h3 : e = e') : E.take (k + 1) = E'.take (k + 1) := by
  rw [List.take_add_one, List.take_add_one, h, h1, h2, h3]
theorem ne_at9 {α : Type} {E E' : List α} {k : Nat} {e e' : α} (h1 : E[k]? = some e) (h2 : E'[k]? = some e') (h3 : ¬ e = e') : ¬ E = E' := fun h => by
  rw [h, h2] at h1
  exact h3 (Option.some.inj h1).symm
theorem ce_of {w : World} {d : CV} {e : C5} (h : d.1 = e.1 ∧ d.2.1 = e.2.1 ∧ d.2.2.1 = e.2.2.1 ∧ RN w (slV d.2.2.2) e.2.2.2) : ceV d = ceP e (slV d.2.2.2) := by
  obtain ⟨dk, dt, dv, ds⟩ := d
  obtain ⟨x1, x2, x3, _⟩ := h
  simp only at x1 x2 x3
  subst x1; subst x2; subst x3; rfl
set_option maxHeartbeats 2000000 in
set_option maxRecDepth 100000 in
theorem sameL9_any (v v' : Value) (D D' : List CV) (E E' : List C5) (w : World) (hrow : RowC w v D) (hrow' : RowC w v' D') (hre : Are w D E) (hre' : Are w D' E') (hl : E.length ≤ 2097152) (hl' : E'.length ≤ 2097152) (hA : ∀ e ∈ E, e.2.2.2.length ≤ 4194304) (hA' : ∀ e ∈ E', e.2.2.2.length ≤ 4194304) :
    Calls Tryz.prog 36 #[v, v'] w fun r w' => r = .returned (.bool (decide (E = E'))) ∧ Below w.heap.size w w' := by
  have hE := forall2_len hre
  have hE' := forall2_len hre'
  obtain ⟨n, hn⟩ : ∃ n, D.length = n := ⟨_, rfl⟩
  obtain ⟨m, hm⟩ : ∃ m, D'.length = m := ⟨_, rfl⟩
  obtain ⟨pa, ca, rfl, ha, _, hca⟩ := hrow
  obtain ⟨pb, cb, rfl, hb, _, hcb⟩ := hrow'
  rw [hn] at ha hE ⊢
  rw [hm] at hb hE' ⊢
  have HN : Hid (D.length = n ∧ D'.length = m ∧ E.length = n ∧ E'.length = m) := ⟨hn, hm, hE.symm, hE'.symm⟩
  by_cases hnm : n = m
  · subst hnm
    have HA : Hid (D ≠ [] → ∃ b off, pa = some ⟨b, off, none⟩ ∧ InC w b off D) := hca
    have HB : Hid (D' ≠ [] → ∃ b off, pb = some ⟨b, off, none⟩ ∧ InC w b off D') := hcb
    have hl : n ≤ 2097152 := by omega
    have CC : Hid (∀ (k : Nat) d d', D[k]? = some d → D'[k]? = some d' → ∃ e e', E[k]? = some e ∧ E'[k]? = some e' ∧ ∀ W, Below w.heap.size w W → Calls Tryz.prog 40 #[ceV d, ceV d'] W fun r w' => r = .returned (.bool (decide (e = e'))) ∧ Below W.heap.size W w') := fun k d d' h1 h2 => by
      obtain ⟨y, hy, r1⟩ := forall2_get hre k d h1
      obtain ⟨y', hy', r2⟩ := forall2_get hre' k d' h2
      refine ⟨y, y', hy, hy', fun W hW => ?_⟩
      rw [ce_of r1, ce_of r2]
      exact sameR9_any y y' _ _ W (r1.2.2.2.below hW).row (r2.2.2.2.below hW).row (hA y (List.mem_of_getElem? hy)) (hA' y' (List.mem_of_getElem? hy'))
    clear hca hcb hn hm hre hre' hE hE' hA hA' hl'
    go_enter Tryz.func36, Tryz.ntmps36
    go_wp2
    go_loopw [13, 5] (fun i _ wr => ∃ (k : Nat), k ≤ n ∧ i = .int .i64 k ∧ Hid (E.take k = E'.take k) ∧ Below w.heap.size w wr) (fun i _ _ => n - (RowKit.intOf i).toNat)
    case atStart => exact ⟨0, Nat.zero_le _, rfl, rfl, Below.refl _ _⟩
    case round =>
      obtain ⟨k, hk, rfl, HT, hbw⟩ := hrel
      by_cases hlt : k < n
      · have hltI : (k : Int) < n := by omega
        obtain ⟨d, hd⟩ : ∃ q, D[k]? = some q := ⟨_, List.getElem?_eq_getElem (by rw [HN.out.1]; exact hlt)⟩
        obtain ⟨d', hd'⟩ : ∃ q, D'[k]? = some q := ⟨_, List.getElem?_eq_getElem (by rw [HN.out.2.1]; exact hlt)⟩
        obtain ⟨e, e', he, he', cc⟩ := CC.out k d d' hd hd'
        obtain ⟨b, off, rfl, hin⟩ := HA.out (by intro e; rw [e] at hd; simp at hd)
        obtain ⟨b', off', rfl, hin'⟩ := HB.out (by intro e; rw [e] at hd'; simp at hd')
        obtain ⟨x0, x1, x2, x3, x4, x5⟩ := cellsC_get D k d hd
        obtain ⟨y0, y1, y2, y3, y4, y5⟩ := cellsC_get D' k d' hd'
        have c0 := (hin.below hbw) _ _ x0
        have c1 := (hin.below hbw) _ _ x1
        have c2 := (hin.below hbw) _ _ x2
        have c3 := (hin.below hbw) _ _ x3
        have c4 := (hin.below hbw) _ _ x4
        have c5 := (hin.below hbw) _ _ x5
        have d0 := (hin'.below hbw) _ _ y0
        have d1 := (hin'.below hbw) _ _ y1
        have d2 := (hin'.below hbw) _ _ y2
        have d3 := (hin'.below hbw) _ _ y3
        have d4 := (hin'.below hbw) _ _ y4
        have d5 := (hin'.below hbw) _ _ y5
        simp only [← Nat.add_assoc] at c0 c1 c2 c3 c4 c5 d0 d1 d2 d3 d4 d5
        have HEE : Hid (E[k]? = some e ∧ E'[k]? = some e') := ⟨he, he'⟩
        clear x0 x1 x2 x3 x4 x5 y0 y1 y2 y3 y4 y5 hin hin' hd hd' he he'
        obtain ⟨f, t, ⟨x, z, u⟩, p, j, c⟩ := d
        obtain ⟨f', t', ⟨x', z', u'⟩, p', j', c'⟩ := d'
        simp only [slV] at c0 c1 c2 c3 c4 c5 d0 d1 d2 d3 d4 d5
        simp only [ceV, slV] at cc
        have HU : Hid (∀ w', Below wr.drew.heap.size wr.drew w' → (w'.cell? ⟨b, off + k * 6, none⟩ = some (.int .i32 f) ∧ w'.cell? ⟨b, off + k * 6 + 1, none⟩ = some (.string t) ∧ w'.cell? ⟨b, off + k * 6 + 2, none⟩ = some (.int .i64 x) ∧ w'.cell? ⟨b, off + k * 6 + 3, none⟩ = some (.int .i64 z) ∧ w'.cell? ⟨b, off + k * 6 + 4, none⟩ = some (.string u) ∧ w'.cell? ⟨b, off + k * 6 + 5, none⟩ = some (.slice p j c) ∧ w'.cell? ⟨b', off' + k * 6, none⟩ = some (.int .i32 f') ∧ w'.cell? ⟨b', off' + k * 6 + 1, none⟩ = some (.string t') ∧ w'.cell? ⟨b', off' + k * 6 + 2, none⟩ = some (.int .i64 x') ∧ w'.cell? ⟨b', off' + k * 6 + 3, none⟩ = some (.int .i64 z') ∧ w'.cell? ⟨b', off' + k * 6 + 4, none⟩ = some (.string u') ∧ w'.cell? ⟨b', off' + k * 6 + 5, none⟩ = some (.slice p' j' c'))) := fun w' hb => ⟨(hb.cell (lt_of_cell (w := wr.drew) c0)).trans c0, (hb.cell (lt_of_cell (w := wr.drew) c1)).trans c1, (hb.cell (lt_of_cell (w := wr.drew) c2)).trans c2, (hb.cell (lt_of_cell (w := wr.drew) c3)).trans c3, (hb.cell (lt_of_cell (w := wr.drew) c4)).trans c4, (hb.cell (lt_of_cell (w := wr.drew) c5)).trans c5, (hb.cell (lt_of_cell (w := wr.drew) d0)).trans d0, (hb.cell (lt_of_cell (w := wr.drew) d1)).trans d1, (hb.cell (lt_of_cell (w := wr.drew) d2)).trans d2, (hb.cell (lt_of_cell (w := wr.drew) d3)).trans d3, (hb.cell (lt_of_cell (w := wr.drew) d4)).trans d4, (hb.cell (lt_of_cell (w := wr.drew) d5)).trans d5⟩
        have hz0 : w.heap.size ≤ wr.drew.heap.size := hbw.size
        obtain ⟨q, hq⟩ : ∃ q, decide (e = e') = q := ⟨_, rfl⟩
        rw [hq] at cc
        have HQ : Hid (decide (e = e') = q) := hq
        clear hq
        cases q with
        | true =>
          have HT2 : Hid (E.take (k + 1) = E'.take (k + 1)) := take_snoc9 HT.out HEE.out.1 HEE.out.2 (of_decide_eq_true HQ.out)
          go_wp2_with fail
          go_region_held3 (fun w' => (w'.cell? ⟨b, off + k * 6, none⟩ = some (.int .i32 f) ∧ w'.cell? ⟨b, off + k * 6 + 1, none⟩ = some (.string t) ∧ w'.cell? ⟨b, off + k * 6 + 2, none⟩ = some (.int .i64 x) ∧ w'.cell? ⟨b, off + k * 6 + 3, none⟩ = some (.int .i64 z) ∧ w'.cell? ⟨b, off + k * 6 + 4, none⟩ = some (.string u) ∧ w'.cell? ⟨b, off + k * 6 + 5, none⟩ = some (.slice p j c) ∧ w'.cell? ⟨b', off' + k * 6, none⟩ = some (.int .i32 f') ∧ w'.cell? ⟨b', off' + k * 6 + 1, none⟩ = some (.string t') ∧ w'.cell? ⟨b', off' + k * 6 + 2, none⟩ = some (.int .i64 x') ∧ w'.cell? ⟨b', off' + k * 6 + 3, none⟩ = some (.int .i64 z') ∧ w'.cell? ⟨b', off' + k * 6 + 4, none⟩ = some (.string u') ∧ w'.cell? ⟨b', off' + k * 6 + 5, none⟩ = some (.slice p' j' c')) ∧ Below w.heap.size w w')
            (exact ⟨by first | (with_reducible assumption) | (simp [*]; done), by first | (with_reducible assumption) | exact hbw.drew⟩)
            (first | (go_at_call 40; refine (cc _ ?_).mono ?_; (· first | assumption | exact hbw.drew | (apply And.right; assumption)); rintro r w3 ⟨rfl, b3⟩; have b4 : Below w.heap.size w w3 := (hbw.drew).trans (b3.mono hz0); have mm := HU.out _ b3))
          clear cc mm b3
          go_wp2
          go_roundw
          case rel => exact ⟨k + 1, by omega, by go_num, HT2, b4⟩
          case measure => simp [RowKit.intOf]; omega
        | false =>
          have hfin : Hid (decide (E = E') = false) := decide_eq_false (ne_at9 HEE.out.1 HEE.out.2 (of_decide_eq_false HQ.out))
          go_wp2_with fail
          go_region_held3 (fun w' => (w'.cell? ⟨b, off + k * 6, none⟩ = some (.int .i32 f) ∧ w'.cell? ⟨b, off + k * 6 + 1, none⟩ = some (.string t) ∧ w'.cell? ⟨b, off + k * 6 + 2, none⟩ = some (.int .i64 x) ∧ w'.cell? ⟨b, off + k * 6 + 3, none⟩ = some (.int .i64 z) ∧ w'.cell? ⟨b, off + k * 6 + 4, none⟩ = some (.string u) ∧ w'.cell? ⟨b, off + k * 6 + 5, none⟩ = some (.slice p j c) ∧ w'.cell? ⟨b', off' + k * 6, none⟩ = some (.int .i32 f') ∧ w'.cell? ⟨b', off' + k * 6 + 1, none⟩ = some (.string t') ∧ w'.cell? ⟨b', off' + k * 6 + 2, none⟩ = some (.int .i64 x') ∧ w'.cell? ⟨b', off' + k * 6 + 3, none⟩ = some (.int .i64 z') ∧ w'.cell? ⟨b', off' + k * 6 + 4, none⟩ = some (.string u') ∧ w'.cell? ⟨b', off' + k * 6 + 5, none⟩ = some (.slice p' j' c')) ∧ Below w.heap.size w w')
            (exact ⟨by first | (with_reducible assumption) | (simp [*]; done), by first | (with_reducible assumption) | exact hbw.drew⟩)
            (first | (go_at_call 40; refine (cc _ ?_).mono ?_; (· first | assumption | exact hbw.drew | (apply And.right; assumption)); rintro r w3 ⟨rfl, b3⟩; have b4 : Below w.heap.size w w3 := (hbw.drew).trans (b3.mono hz0); have mm := HU.out _ b3))
          clear cc mm b3
          go_wp2
          go_ret
          exact ⟨by rw [hfin.out]; rfl, b4⟩
      · have hltI : ¬ (k : Int) < n := by omega
        have hfin : Hid (decide (E = E') = true) := decide_eq_true (by
          have := HT.out
          rwa [List.take_of_length_le (by rw [HN.out.2.2.1]; omega), List.take_of_length_le (by rw [HN.out.2.2.2]; omega)] at this)
        go_wp2
        go_ret
        exact ⟨by rw [hfin.out]; rfl, hbw⟩
  · have hne : ((n : Int) != m) = true := by simp; omega
    have hfin : Hid (decide (E = E') = false) := decide_eq_false (fun h => hnm (by rw [← HN.out.2.2.1, ← HN.out.2.2.2, h]))
    clear hca hcb hn hm hre hre' hE hE' hA hA' hnm HN hl hl'
    go_enter Tryz.func36, Tryz.ntmps36
    go_wp2
    go_ret
    exact ⟨by rw [hfin.out]; rfl, Below.refl _ _⟩

end Go.Proofs.YthfpmhnnjjikcaaGreatDoor

/- vellumlaw09.large, vellumlaw09.lives. -/
namespace Go.Proofs.YthfpmhnnjjikcaaGreatDoor
open Go Go.RowKit Go.Lib
set_option linter.unusedVariables false
/-- A cell without attributes, as it lies in memory. -/
abbrev cvN (e : C5) : CV := (e.1, e.2.1, e.2.2.1, (none, 0, 0))
theorem rowC_blk {w : World} {b : Nat} {D : List CV} (h : w.heap[b]? = some (.cells (cellsC D).toArray 84 (0, 0))) : RowC w (.slice (some ⟨b, 0, none⟩) D.length D.length) D := by
  refine ⟨some ⟨b, 0, none⟩, D.length, rfl, Nat.le_refl _, fun h => (by cases h), fun _ => ⟨b, 0, rfl, fun j u hu => ?_⟩⟩
  rw [Nat.zero_add, cell_of_heap h, List.getElem?_toArray]
  exact hu
theorem areN (w : World) : ∀ (E : List C5), (∀ e ∈ E, e.2.2.2 = []) → Are w (E.map cvN) E
  | [], _ => .nil
  | e :: r, h => by
    refine .cons ⟨rfl, rfl, rfl, ?_⟩ (areN w r fun x hx => h x (List.mem_cons_of_mem _ hx))
    rw [h e (List.mem_cons_self ..)]
    exact RN.nil w
def live9 : List C5 := [(97, ⟨#[]⟩, z0, []), (98, ⟨#[]⟩, z0, []), (-1, ⟨#[105, 109, 97, 103, 101]⟩, z0, [])]
def live9o : List Op5 := [txtO ⟨#[97, 98]⟩, ⟨2, ⟨#[105, 109, 97, 103, 101]⟩, z0, 0, []⟩]
theorem live9_ok : celP live9 = (0, 0) := by kernel_rfl
theorem live9_doc : docOf live9 = live9o := by kernel_rfl
theorem live9_nil : ∀ e ∈ live9, e.2.2.2 = [] := by
  intro e he
  simp only [live9, List.mem_cons, List.not_mem_nil, or_false] at he
  rcases he with rfl | rfl | rfl <;> rfl
theorem live9_fit : ∀ e ∈ live9, FitC e := by
  intro e he
  have hA := live9_nil e he
  refine ⟨?_, ?_, fun q hq => (by rw [hA] at hq; cases hq), by rw [hA]; simp⟩
  all_goals
    simp only [live9, List.mem_cons, List.not_mem_nil, or_false] at he
    rcases he with rfl | rfl | rfl <;> decide
theorem live9o_nil : ∀ o ∈ live9o, o.A = [] := by
  intro o ho
  simp only [live9o, List.mem_cons, List.not_mem_nil, or_false] at ho
  rcases ho with rfl | rfl <;> rfl
theorem live9o_okR : OkR live9o := ⟨fun o ho => by rw [live9o_nil o ho]; simp, by decide⟩
theorem live9o_good : ∀ o ∈ live9o, opE o = 0 := by
  intro o ho
  simp only [live9o, List.mem_cons, List.not_mem_nil, or_false] at ho
  rcases ho with rfl | rfl <;> kernel_rfl
set_option maxHeartbeats 2000000 in
set_option maxRecDepth 100000 in
theorem lives9_any {I : List Nat} {a : Nat → Addr} (w : World) (hI : ∀ i ∈ IxO, i ∈ I) (hS : Std I a w) :
    Calls Tryz.prog 31 #[] w fun r w' => r = .returned (.bool true) ∧ Below w.heap.size w w' := by
  have CO : Hid (∀ W b, Below w.heap.size w W → W.heap[b]? = some (.cells (cellsC (live9.map cvN)).toArray 84 (0, 0)) → Calls Tryz.prog 82 #[.slice (some ⟨b, 0, none⟩) 3 3] W fun r w' => ∃ dv, r = .returned (.tuple #[dv, .int .i64 0, .nilIface]) ∧ (∃ q, dv = .pointer (some ⟨q, 0, none⟩)) ∧ DelV w' W.heap.size W.heap.size dv live9o ∧ Below W.heap.size W w') := fun W b hW hb => by
    refine (ofC_any _ (live9.map cvN) live9 W hI (hS.below hW) (rowC_blk hb) (areN W live9 live9_nil) live9_fit (by decide) (by decide)).mono ?_
    rintro r w' ⟨dv, h1, h2, _, h4⟩
    rw [live9_ok] at h1 h2
    rw [live9_doc] at h2
    have h5 := h2 rfl
    obtain ⟨q, pv, PL, e, _⟩ := id h5
    exact ⟨dv, h1, ⟨q, e⟩, h5, h4⟩
  have CI : Hid (∀ W b dv B1 B2, DelV W B1 B2 dv live9o → W.heap[b]? = some (.cells (cellsO (live9o.map ovN)).toArray 33 (0, 0)) → Calls Tryz.prog 15 #[dv, .slice (some ⟨b, 0, none⟩) 2 2] W fun r w' => r = .returned (.bool true) ∧ Below W.heap.size W w') := fun W b dv B1 B2 h hb => by
    have := is_any dv (.slice (some ⟨b, 0, none⟩) 2 2) live9o live9o W h live9o_good live9o_okR (re_blk hb live9o_nil) live9o_okR
    rw [decide_eq_true rfl] at this
    exact this
  clear hS hI
  go_enter Tryz.func31, Tryz.ntmps31
  have b0 := (Below.refl w.heap.size w).alloc (Nat.le_refl _) (.cells (cellsC (live9.map cvN)).toArray 84)
  go_wp2_with fail
  refine (CO.out _ _ b0 (heap_alloc_new w _)).mono ?_; rintro r w5 ⟨dv, rfl, ⟨q, rfl⟩, hd5, hb5⟩
  have b5 := b0.trans (hb5.mono b0.size)
  have HD5 : Hid (∃ B1 B2, DelV w5 B1 B2 (.pointer (some ⟨q, 0, none⟩)) live9o) := ⟨_, _, hd5⟩
  clear hb5 hd5 CO b0
  obtain ⟨B1, B2, hd7⟩ := HD5.out
  have HD : Hid (DelV w5 B1 B2 (.pointer (some ⟨q, 0, none⟩)) live9o) := hd7
  clear hd7 HD5
  go_wp2_with fail
  refine (CI.out _ _ _ B1 B2 (HD.out.below ((Below.refl _ _).alloc (Nat.le_refl _) _)) (heap_alloc_new w5 _)).mono ?_; rintro r w8 ⟨rfl, hb8⟩
  have b8 := (b5.alloc b5.size _).trans (hb8.mono (Nat.le_trans b5.size (by rw [World.size_alloc]; omega)))
  clear hb8 b5 CI HD
  go_wp2
  go_ret
  exact ⟨rfl, b8⟩
end Go.Proofs.YthfpmhnnjjikcaaGreatDoor

/- The errors' numbers: what vellumnum.list and vellumnum.Num answer where all nineteen sentinels lie as laid. -/
namespace Go.Proofs.YthfpmhnnjjikcaaGreatDoor
open Go Go.RowKit
set_option linter.unusedVariables false
/-- All nineteen. -/
def all19 : List Nat := List.range 19
abbrev Sent (a : Nat → Addr) (w : World) : Prop := Er all19 a w
theorem in19 {i : Nat} (h : i < 19) : i ∈ all19 := List.mem_range.2 h
def errA (a : Nat → Addr) : Array Value := #[errV a 0, errV a 1, errV a 2, errV a 3, errV a 4, errV a 5, errV a 6, errV a 7, errV a 8, errV a 9, errV a 10, errV a 11, errV a 12, errV a 13, errV a 14, errV a 15, errV a 16, errV a 17, errV a 18]

theorem wl_build (a : Nat → Addr) {ops : Array Oper} {rest : List Oper} {o : Oper} {A : Act} {w : World} {Q : Exit → Act → World → Prop} (hg : o.guard = none) (parts : Array (Nat × Operand)) (ho : o.op = .build 120 parts)
    (hp : (parts.map fun (i, x) => (i, A.eval x)) = #[(0, errV a 0), (1, errV a 1), (2, errV a 2), (3, errV a 3), (4, errV a 4), (5, errV a 5), (6, errV a 6), (7, errV a 7), (8, errV a 8), (9, errV a 9), (10, errV a 10), (11, errV a 11), (12, errV a 12), (13, errV a 13), (14, errV a 14), (15, errV a 15), (16, errV a 16), (17, errV a 17), (18, errV a 18)])
    (h : wpList Tryz.prog ops Q rest (A.put o.dst (.agg (errA a))) w) : wpList Tryz.prog ops Q (o :: rest) A w := by
  have hb : Tryz.prog.built 120 (parts.map fun (i, x) => (i, A.eval x)).toList = some (errA a) := by rw [hp]; kernel_rfl
  refine wpList_build hg 120 parts ho (by rw [hb]; rfl) ?_
  rw [hb]; exact h

theorem alloc_setRow (w : World) (old cs : Array Value) (t : TypeId) : (w.alloc (.cells old t)).setRow w.heap.size cs = w.alloc (.cells cs t) := by
  have : ((w.heap.push (.cells old t)).modify w.heap.size fun | .cells _ t f => .cells cs t f | o => o) = w.heap.push (.cells cs t) := by
    apply Array.ext
    · simp
    · intro i h1 h2
      rw [Array.getElem_modify]
      by_cases hi : w.heap.size = i
      · subst hi; simp
      · rw [if_neg hi]
        have : i < w.heap.size := by simp at h2; omega
        simp [Array.getElem_push, this]
  show { w with heap := (w.heap.push (.cells old t)).modify w.heap.size _ } = { w with heap := w.heap.push _ }
  rw [← this]; rfl

theorem wl_store (a : Nat → Addr) {ops : Array Oper} {rest : List Oper} {o : Oper} {A : Act} {w : World} {Q : Exit → Act → World → Prop} {old : Array Value} (hg : o.guard = none) (x y : Operand) (ho : o.op = .store 120 x y)
    (hx : A.eval x = .pointer (some ⟨w.heap.size, 0, none⟩)) (hy : A.eval y = .agg (errA a)) (hold : old.size = 19)
    (h : wpList Tryz.prog ops Q rest (A.put o.dst undef) (w.alloc (.cells (errA a) 120))) : wpList Tryz.prog ops Q (o :: rest) A (w.alloc (.cells old 120)) := by
  refine wpList_store_row hg 120 x y ho w.heap.size (errA a) hx hy 120 old (by show (w.heap.push _)[w.heap.size]? = _; simp) (by kernel_rfl) (by rw [hold]; rfl) (by kernel_rfl) ?_
  rw [alloc_setRow]; exact h

set_option maxHeartbeats 400000 in
set_option maxRecDepth 100000 in
theorem list_any (a : Nat → Addr) (w : World) (h : ∀ i, i < 19 → w.cell? ⟨[3, 4, 5, 6, 7, 8, 9, 10, 2, 11, 12, 0, 13, 14, 15, 16, 17, 1, 18].getD i 0, 0, none⟩ = some (errV a i)) :
    Calls Tryz.prog 61 #[] w fun e w' => e = .returned (.agg (errA a)) ∧ Below w.heap.size w w' := by
  have h0 : w.cell? ⟨3, 0, none⟩ = some (errV a 0) := h 0 (by omega)
  have h1 : w.cell? ⟨4, 0, none⟩ = some (errV a 1) := h 1 (by omega)
  have h2 : w.cell? ⟨5, 0, none⟩ = some (errV a 2) := h 2 (by omega)
  have h3 : w.cell? ⟨6, 0, none⟩ = some (errV a 3) := h 3 (by omega)
  have h4 : w.cell? ⟨7, 0, none⟩ = some (errV a 4) := h 4 (by omega)
  have h5 : w.cell? ⟨8, 0, none⟩ = some (errV a 5) := h 5 (by omega)
  have h6 : w.cell? ⟨9, 0, none⟩ = some (errV a 6) := h 6 (by omega)
  have h7 : w.cell? ⟨10, 0, none⟩ = some (errV a 7) := h 7 (by omega)
  have h8 : w.cell? ⟨2, 0, none⟩ = some (errV a 8) := h 8 (by omega)
  have h9 : w.cell? ⟨11, 0, none⟩ = some (errV a 9) := h 9 (by omega)
  have h10 : w.cell? ⟨12, 0, none⟩ = some (errV a 10) := h 10 (by omega)
  have h11 : w.cell? ⟨0, 0, none⟩ = some (errV a 11) := h 11 (by omega)
  have h12 : w.cell? ⟨13, 0, none⟩ = some (errV a 12) := h 12 (by omega)
  have h13 : w.cell? ⟨14, 0, none⟩ = some (errV a 13) := h 13 (by omega)
  have h14 : w.cell? ⟨15, 0, none⟩ = some (errV a 14) := h 14 (by omega)
  have h15 : w.cell? ⟨16, 0, none⟩ = some (errV a 15) := h 15 (by omega)
  have h16 : w.cell? ⟨17, 0, none⟩ = some (errV a 16) := h 16 (by omega)
  have h17 : w.cell? ⟨1, 0, none⟩ = some (errV a 17) := h 17 (by omega)
  have h18 : w.cell? ⟨18, 0, none⟩ = some (errV a 18) := h 18 (by omega)
  have z0 : 3 < w.heap.size := lt_of_cell h0
  have z1 : 4 < w.heap.size := lt_of_cell h1
  have z2 : 5 < w.heap.size := lt_of_cell h2
  have z3 : 6 < w.heap.size := lt_of_cell h3
  have z4 : 7 < w.heap.size := lt_of_cell h4
  have z5 : 8 < w.heap.size := lt_of_cell h5
  have z6 : 9 < w.heap.size := lt_of_cell h6
  have z7 : 10 < w.heap.size := lt_of_cell h7
  have z8 : 2 < w.heap.size := lt_of_cell h8
  have z9 : 11 < w.heap.size := lt_of_cell h9
  have z10 : 12 < w.heap.size := lt_of_cell h10
  have z11 : 0 < w.heap.size := lt_of_cell h11
  have z12 : 13 < w.heap.size := lt_of_cell h12
  have z13 : 14 < w.heap.size := lt_of_cell h13
  have z14 : 15 < w.heap.size := lt_of_cell h14
  have z15 : 16 < w.heap.size := lt_of_cell h15
  have z16 : 17 < w.heap.size := lt_of_cell h16
  have z17 : 1 < w.heap.size := lt_of_cell h17
  have z18 : 18 < w.heap.size := lt_of_cell h18
  clear h
  go_enter Tryz.func61, Tryz.ntmps61
  go_wp2_with (first | (refine wl_build a rfl _ rfl (by kernel_rfl) ?_) | (refine wl_store a rfl _ _ rfl (by kernel_rfl) (by kernel_rfl) (by kernel_rfl) ?_))
  have hl := run_loadVar_new (P := Tryz.prog) w 120 (errA a) 19 40 Tryz.underlying120 (by kernel_rfl)
  refine bodyPost_ret (v := .agg (errA a)) ?_ rfl ⟨rfl, (Below.refl _ _).alloc (Nat.le_refl _) _⟩
  simp only [results, Tryz.results61]
  simp [asAddr, Act.put, hl]

theorem errA_get (a : Nat → Addr) (k : Nat) (hk : k < 19) : (errA a)[k]? = some (errV a k) := by
  have e : errA a = ((List.range 19).map (errV a)).toArray := rfl
  rw [e]
  simp [hk]

theorem index_arr {A : Array Value} {k : Nat} {v : Value} (hk : k < 19) (hA : A[k]? = some v) (w : World) : (Instr.index 120 (.agg A) (.int .i64 k)).run Tryz.prog w = .ok v w := by
  obtain ⟨i, hi, hs⟩ := Option.map_eq_some_iff.1 (show (Tryz.prog.info? 40).map (·.size) = some 1 by kernel_rfl)
  have hk2 : (0 : Int) ≤ k ∧ (k : Int) < 19 := by omega
  simp [Instr.index, run_underlying Tryz.underlying120, asIntOf, hk2, sizeOf, typeInfo, hi, hs, part, hA]
  omega

theorem num_nil (w : World) : Calls Tryz.prog 14 #[.nilIface] w fun e w' => e = .returned (.int .i64 0) ∧ w' = w := by
  go_enter Tryz.func14, Tryz.ntmps14
  go_wp2
  go_ret
  exact ⟨rfl, rfl⟩

set_option maxHeartbeats 400000 in
theorem num_err {a : Nat → Addr} {w : World} (h : Sent a w) (n : Nat) (hn : n < 19) :
    Calls Tryz.prog 14 #[errV a n] w fun e w' => e = .returned (.int .i64 (n + 1)) ∧ Below w.heap.size w w' := by
  have hcell : ∀ i, i < 19 → w.cell? ⟨[3, 4, 5, 6, 7, 8, 9, 10, 2, 11, 12, 0, 13, 14, 15, 16, 17, 1, 18].getD i 0, 0, none⟩ = some (errV a i) := fun i hi => h.cell i (in19 hi)
  have hnil := eql_nil a n
  have hsame := eql_same a n
  obtain ⟨A, hA⟩ : ∃ A, A = errA a := ⟨_, rfl⟩
  have hAs : A.size = 19 := by rw [hA]; rfl
  have hAg : ∀ k, k < 19 → A[k]? = some (errV a k) := by rw [hA]; exact errA_get a
  go_enter Tryz.func14, Tryz.ntmps14
  go_wp2_with (go_at_call 61; refine (list_any a _ hcell).mono ?_; rintro e w1 ⟨rfl, hb⟩; have h1 := h.below hb; clear hcell h hnil; rw [← hA]; clear hA)
  go_loop [8] (fun i => ∃ k : Nat, k ≤ n ∧ i = .int .i64 k) (fun i => 19 - (intOf i).toNat)
  case atStart => exact ⟨0, Nat.zero_le _, rfl⟩
  case round =>
    obtain ⟨k, hk, rfl⟩ := hrel
    have hAk := hAg k (by omega)
    have hk9 : (k : Int) < 19 := by omega
    have hix := index_arr (A := A) (by omega : k < 19) hAk
    clear hAg hAk
    by_cases hlt : k < n
    · have he := eql_other h1 n k (in19 hn) (in19 (by omega)) (by omega)
      clear h1 hsame
      go_wp2
      go_round
      case rel => exact ⟨k + 1, by omega, by go_num⟩
      case measure => simp [intOf]; omega
    · obtain rfl : k = n := by omega
      clear h1
      go_wp2
      go_ret
      exact ⟨rfl, hb⟩

theorem num_of {a : Nat → Addr} {w : World} (h : Sent a w) (e : Nat) (he : e ≤ 19) :
    Calls Tryz.prog 14 #[errOf a e] w fun r w' => r = .returned (.int .i64 e) ∧ Below w.heap.size w w' := by
  cases e with
  | zero => exact (num_nil w).mono fun r w' ⟨h1, h2⟩ => ⟨h1, by rw [h2]; exact Below.refl _ _⟩
  | succ n => rw [errOf_succ]; exact num_err h n (by omega)
end Go.Proofs.YthfpmhnnjjikcaaGreatDoor

/- vellumspare.Spoil: writes over operations and their lists, and nothing else. -/
namespace Go.Proofs.YthfpmhnnjjikcaaGreatDoor
open Go Go.RowKit Go.Lib
set_option linter.unusedVariables false
theorem cell_at {w : World} {g : Nat} {cur : Array Value} {e : TypeId} (h : w.heap[g]? = some (.cells cur e (0, 0))) (j : Nat) (hj : j < cur.size) : ∃ u, w.cell? ⟨g, j, none⟩ = some u :=
  ⟨cur[j], by simp [World.cell?, h, hj]⟩
end Go.Proofs.YthfpmhnnjjikcaaGreatDoor

/- What writing over a list leaves of deltas; build.Same. -/
namespace Go.Proofs.YthfpmhnnjjikcaaGreatDoor
open Go Go.RowKit Go.Lib
set_option linter.unusedVariables false
theorem DelV.out {w w' : World} {lo hi B1 B2 : Nat} {v : Value} {E : List Op5} (h : DelV w B1 B2 v E) (o : Out lo hi w w') (h1 : hi ≤ B1) (h2 : hi ≤ B2) : DelV w' B1 B2 v E := by
  obtain ⟨q, pv, PL, a1, a2, a3, a4, a5⟩ := h
  refine ⟨q, pv, PL, a1, a2, (o.block q (Array.getElem?_eq_some_iff.1 a3).1 (Or.inr (by omega))).trans a3, o.own h1 a4, ?_⟩
  exact All2.imp (fun x e h => by obtain ⟨s, k1, k2⟩ := h; exact ⟨s, k1, o.own h2 k2⟩) a5
end Go.Proofs.YthfpmhnnjjikcaaGreatDoor

/- Of all lists of cells vellumlaw09.CellsBack answers true. -/
namespace Go.Proofs.YthfpmhnnjjikcaaGreatDoor
open Go Go.RowKit Go.Lib Go.Shelf
set_option linter.unusedVariables false
theorem Hid.mkh {P : Prop} (h : P) : Hid P := h
end Go.Proofs.YthfpmhnnjjikcaaGreatDoor

/- vellumlaw09.told: what cells.Each tells. -/
namespace Go.Proofs.YthfpmhnnjjikcaaGreatDoor
open Go Go.RowKit Go.Lib Go.Shelf
set_option linter.unusedVariables false
attribute [local go_sem] Oper.semAt_some
/-- What told has laid for itself. -/
structure To9 (B3 B4 B5 : Nat) (N : Int) (A : World) : Prop where
  m : A.heap[B3]? = some (.cells #[.int .i64 N] 3 (0, 0))
  r : ∃ u, A.heap[B4]? = some (.cells #[u] 74 (0, 0))
  o : ∃ u, A.heap[B5]? = some (.cells #[u] 4 (0, 0))
theorem To9.tr {B3 B4 B5 B : Nat} {N : Int} {A A' : World} (h : To9 B3 B4 B5 N A) (k : Tr7 (fun t => t = 3) B A A') (h3 : B3 < B) (h4 : B4 < B) (h5 : B5 < B) : To9 B3 B4 B5 N A' := by
  obtain ⟨h1, ⟨u, h2⟩, ⟨z, h6⟩⟩ := h
  exact ⟨k.kept _ _ h1 (.inl h3), ⟨u, k.kept _ _ h2 (.inl h4)⟩, ⟨z, k.kept _ _ h6 (.inl h5)⟩⟩
theorem To9.below {B3 B4 B5 : Nat} {N : Int} {A A' : World} (h : To9 B3 B4 B5 N A) (b : Below A.heap.size A A') : To9 B3 B4 B5 N A' := by
  obtain ⟨h1, ⟨u, h2⟩, ⟨z, h6⟩⟩ := h
  exact ⟨heap_below b h1, ⟨u, heap_below b h2⟩, ⟨z, heap_below b h6⟩⟩
theorem To9.round {E : List Op5} {w A A' : World} {O B3 B4 B5 : Nat} {N : Int} {pre : List EZ} {lv v' : Value} {L : List CV} {d : CV} (t : To9 B3 B4 B5 N A) (h : Li9 E w O pre lv L A) (g : (A.alloc (.cells (ceC d) 84)).grownBy A' lv.ownBlock) (hO : B4 ≠ O) : To9 B3 B4 B5 N (A'.setCell ⟨O, 0, none⟩ v') := by
  obtain ⟨h1, ⟨u, h2⟩, ⟨z, h6⟩⟩ := t
  have ne : ∀ (k : Nat) (o : Obj), A.heap[k]? = some o → (∀ cs, o ≠ .cells cs 74 (0, 0)) → k ≠ O := fun k o hk hn e => by subst e; rw [h.box] at hk; exact hn _ (Option.some.inj hk).symm
  exact ⟨(Below.heap_setCell _ _ _ _ (ne _ _ h1 fun cs e => by cases e)).trans (list_keep h g _ _ h1 fun cs e => by cases e), ⟨u, (Below.heap_setCell _ _ _ _ hO).trans (list_keep h g _ _ h2 fun cs e => by cases e)⟩, ⟨z, (Below.heap_setCell _ _ _ _ (ne _ _ h6 fun cs e => by cases e)).trans (list_keep h g _ _ h6 fun cs e => by cases e)⟩⟩
theorem Li9.set9 {E : List Op5} {w : World} {O : Nat} {pre : List EZ} {lv : Value} {D : List CV} {A : World} (h : Li9 E w O pre lv D A) {g : Nat} {cs : Array Value} {t : TypeId} (hg : A.heap[g]? = some (.cells cs t (0, 0))) (ht : t ≠ 84 ∧ t ≠ 163) (hO : g ≠ O) (hw : w.heap.size ≤ g) (u : Value) : Li9 E w O pre lv D (A.setCell ⟨g, 0, none⟩ u) := by
  have ne : ∀ (k : Nat) (cs' : Array Value) (t' : TypeId), A.heap[k]? = some (.cells cs' t' (0, 0)) → t' ≠ t → k ≠ g := fun k cs' t' hk hn e => by
    subst e; rw [hg] at hk
    simp only [Option.some.injEq, Obj.cells.injEq] at hk
    exact hn hk.2.1.symm
  refine ⟨(Below.heap_setCell _ _ _ _ (Ne.symm hO)).trans h.box, h.len, owns_same h.own fun j hj => ?_, h.are.keep fun j cur hj => ?_, h.below.setCell (p := ⟨g, 0, none⟩) hw u, h.asc, h.mks⟩
  · obtain ⟨_, cur, hc⟩ := owns_block h.own j hj
    exact Below.heap_setCell _ _ _ _ (ne _ _ _ hc (Ne.symm ht.1))
  · exact Below.heap_setCell _ _ _ _ (ne _ _ _ hj (Ne.symm ht.2))
theorem told_leave (A : World) (D B4 B5 : Nat) (tmps : Array Value) (lv : Value) {R : Value → World → Prop} (h4 : tmps[4]? = some (.pointer (some ⟨B4, 0, none⟩))) (h5 : tmps[5]? = some (.pointer (some ⟨B5, 0, none⟩))) (hK : A.heap[D]? = some (.deferred (some []))) (c4 : A.cell? ⟨B4, 0, none⟩ = some lv) (c5 : A.cell? ⟨B5, 0, none⟩ = some (.bool true)) (n4 : B4 ≠ D) (n5 : B5 ≠ D) (h : R lv (A.putObj D (.deferred none))) :
    bodyPostM Fence.wide 15 Tryz.prog Tryz.f38 (fun r w' => ∃ lv, r = .returned (.tuple #[lv, .bool true]) ∧ R lv w') Exit.ret { tmps := tmps, defers := [{ target := .collected D, args := #[] }] } A := by
  have g4 : (A.putObj D (.deferred none)).cell? ⟨B4, 0, none⟩ = some lv := (World.cell?_of_block (a := ⟨B4, 0, none⟩) (World.putObj_heap_other n4)).trans c4
  have g5 : (A.putObj D (.deferred none)).cell? ⟨B5, 0, none⟩ = some (.bool true) := (World.cell?_of_block (a := ⟨B5, 0, none⟩) (World.putObj_heap_other n5)).trans c5
  refine ⟨by simp, .inl ⟨_, _, rfl, run_takeDeferred hK, ?_⟩⟩
  refine ⟨.tuple #[lv, .bool true], ?_, ⟨lv, rfl, h⟩⟩
  simp [results, Tryz.results38, go_sem, h4, h5, g4, g5]
set_option maxHeartbeats 8000000 in
set_option maxRecDepth 100000 in
theorem told9_any {B1 B2 : Nat} (v : Value) (E : List Op5) (N : Nat) (w : World) (h : DlE w B1 B2 v E) (hl : (docC9 E).length ≤ 2097152) (hN : (docC9 E).length ≤ N) (hN2 : N ≤ 4194304) (hbg : (cellsL E).length ≤ 1099511627776) :
    Calls Tryz.prog 38 #[v, .int .i64 N] w fun r w' => ∃ lv, r = .returned (.tuple #[lv, .bool true]) ∧ (∃ D, OwnC w' w.heap.size lv D ∧ AreO w' w.heap.size D (docC9 E) ∧ Asc9 D) ∧ Below w.heap.size w w' := by
  have cE : Hid (∀ W, Below w.heap.size w W → Calls Tryz.prog 84 #[v] W fun r w' => ∃ x, r = .returned (.func (.func 115) #[] #[.pointer (some ⟨x, 0, none⟩)]) ∧ (∃ u, w'.cell? ⟨x, 0, none⟩ = some u ∧ DlE w' B1 B2 u E) ∧ Below W.heap.size W w') := fun W hW => by
    refine (eachC_call v E W (h.d.below hW)).mono ?_
    rintro r w' ⟨x, e, ⟨u, h1, h2⟩, _, h3⟩
    exact ⟨x, e, ⟨u, h1, ⟨h2, h.g, h.fit, h.len, h.txt, h.fits⟩⟩, h3⟩
  obtain ⟨q, rfl⟩ : ∃ q, v = .pointer (some ⟨q, 0, none⟩) := by obtain ⟨q, _, _, e, _⟩ := h.d; exact ⟨q, e⟩
  have HB : Hid ((docC9 E).length ≤ 2097152 ∧ (docC9 E).length ≤ N ∧ N ≤ 4194304 ∧ (cellsL E).length ≤ 1099511627776) := ⟨hl, hN, hN2, hbg⟩
  clear h hl hN hbg
  obtain ⟨O4, hO4⟩ : ∃ x, x = w.heap.size + 1 := ⟨_, rfl⟩
  obtain ⟨O5, hO5⟩ : ∃ x, x = w.heap.size + 1 + 1 := ⟨_, rfl⟩
  obtain ⟨C3, hC3⟩ : ∃ x, x = w.heap.size + 1 + 1 + 1 := ⟨_, rfl⟩
  obtain ⟨O6, hO6⟩ : ∃ x, x = w.heap.size + 1 + 1 + 1 + 1 := ⟨_, rfl⟩
  obtain ⟨W3, hW3⟩ : ∃ W, W = ((((w.alloc (.cells #[.int .i64 N] 3)).alloc (.cells #[.slice none 0 0] 74)).alloc (.cells #[.bool false] 4)).alloc (.cells #[] 84)).alloc (.cells #[.slice (some ⟨C3, 0, none⟩) 0 0] 74) := ⟨_, rfl⟩
  have b3 : Below w.heap.size w W3 := by
    rw [hW3]
    exact (((((Below.refl _ _).alloc (Nat.le_refl _) _).alloc (by simp) _).alloc (by simp <;> omega) _).alloc (by simp <;> omega) _).alloc (by simp <;> omega) _
  have hs3 : W3.heap.size = w.heap.size + 5 := by rw [hW3]; simp
  have hT3 : To9 w.heap.size O4 O5 N W3 := by
    rw [hW3, hO4, hO5]
    refine ⟨?_, ⟨.slice none 0 0, ?_⟩, ⟨.bool false, ?_⟩⟩
    · rw [Below.heap_alloc _ _ _ (by simp <;> omega), Below.heap_alloc _ _ _ (by simp <;> omega), Below.heap_alloc _ _ _ (by simp <;> omega), Below.heap_alloc _ _ _ (by simp)]; exact heap_alloc_new w _
    · rw [Below.heap_alloc _ _ _ (by simp <;> omega), Below.heap_alloc _ _ _ (by simp <;> omega), Below.heap_alloc _ _ _ (by simp)]
      have := heap_alloc_new (w.alloc (.cells #[.int .i64 N] 3)) (.cells #[.slice none 0 0] 74)
      rwa [World.size_alloc] at this
    · rw [Below.heap_alloc _ _ _ (by simp <;> omega), Below.heap_alloc _ _ _ (by simp)]
      have := heap_alloc_new ((w.alloc (.cells #[.int .i64 N] 3)).alloc (.cells #[.slice none 0 0] 74)) (.cells #[.bool false] 4)
      rwa [World.size_alloc, World.size_alloc] at this
  have hO3 : W3.heap[O6]? = some (.cells #[.slice (some ⟨C3, 0, none⟩) 0 0] 74 (0, 0)) := by
    rw [hW3, hO6]
    have := heap_alloc_new ((((w.alloc (.cells #[.int .i64 N] 3)).alloc (.cells #[.slice none 0 0] 74)).alloc (.cells #[.bool false] 4)).alloc (.cells #[] 84)) (.cells #[.slice (some ⟨C3, 0, none⟩) 0 0] 74)
    rwa [World.size_alloc, World.size_alloc, World.size_alloc, World.size_alloc] at this
  have hE3 : OwnC W3 w.heap.size (.slice (some ⟨C3, 0, none⟩) 0 0) [] := by
    rw [hW3]
    have := own_emptyC (((w.alloc (.cells #[.int .i64 N] 3)).alloc (.cells #[.slice none 0 0] 74)).alloc (.cells #[.bool false] 4)) w.heap.size (by simp <;> omega)
    rw [World.size_alloc, World.size_alloc, World.size_alloc, ← hC3] at this
    exact owns_below this ((Below.refl _ _).alloc (Nat.le_refl _) _)
  have c3 := cE.out W3 b3
  have HL3 : Hid (Below w.heap.size w W3 ∧ W3.heap.size = w.heap.size + 5 ∧ To9 w.heap.size O4 O5 N W3 ∧ W3.heap[O6]? = some (.cells #[.slice (some ⟨C3, 0, none⟩) 0 0] 74 (0, 0)) ∧ OwnC W3 w.heap.size (.slice (some ⟨C3, 0, none⟩) 0 0) []) := ⟨b3, hs3, hT3, hO3, hE3⟩
  clear b3 hs3 hT3 hO3 hE3 cE
  refine (callsIn_wide (n := 15)).1 ?_
  refine callsIn_of_wp_marks Tryz.func38 rfl trivial ?_ rfl
  simp only [Tryz.ntmps38, List.size_toArray, List.length_cons, List.length_nil, Nat.reduceAdd, Nat.reduceSub, Array.replicate_succ, Array.replicate_zero, List.push_toArray, List.append_toArray, List.nil_append, List.cons_append]
  rw [wpIn_wide]
  go_upto_region 2 with fail
  rw [← hO6, ← hC3, ← hO5, ← hO4, ← hW3]
  have HZ : Hid (O4 = w.heap.size + 1 ∧ O5 = w.heap.size + 2 ∧ O6 = w.heap.size + 4 ∧ C3 = w.heap.size + 3) := ⟨by omega, by omega, by omega, by omega⟩
  have hnf : ∀ (X9 : Nat) (W : World), (binOp .eql 149 (.func (.func 115) #[] #[.pointer (some ⟨X9, 0, none⟩)]) .nilFunc).run Tryz.prog W = .ok (.bool false) W := fun X9 W => by kernel_rfl
  clear hW3 hO4 hO5 hO6 hC3
  go_wp2_with fail
  refine c3.mono ?_; rintro r w4 ⟨x, rfl, hx, hb4⟩
  have H4 : Hid (Li9 E w O6 [] (.slice (some ⟨C3, 0, none⟩) 0 0) [] w4 ∧ To9 w.heap.size O4 O5 N w4 ∧ (∃ u, w4.cell? ⟨x, 0, none⟩ = some u ∧ DlE w4 B1 B2 u E) ∧ w.heap.size + 5 ≤ w4.heap.size) := by
    obtain ⟨h1, h2, h3, h4, h5⟩ := HL3.out
    exact ⟨⟨heap_below hb4 h4, rfl, owns_below h5 hb4, by rw [List.length_nil, List.take_zero]; exact .nil, h1.trans (hb4.mono h1.size), List.Pairwise.nil, fun d hd => by cases hd⟩, h3.below hb4, hx, by have := hb4.size; omega⟩
  have hn9 := hnf x
  clear c3 hx hb4 HL3 hnf
  go_wp2_with fail
  refine (wpIn_wide (n := 15)).1 ?_
  refine wpIn_rangeFunc_GA (encs := encE9) rfl (by decide) (gf := 115) (lb := #[.pointer (some ⟨x, 0, none⟩)]) rfl trivial (enters_of Tryz.func115 (by kernel_rfl) rfl)
    (eachC_seq E w4 x H4.out.2.2.1 (docC9 E).length ?hbig (by unfold docC9; split <;> rfl) 14 (by decide)) (Below.refl _ _) (fun _ => rfl) (fun pre x A A' h k => h.bk k) (fun pre x A A' B B' k1 h k2 => KE9.bk k1 h k2)
    (fun (pre : List EZ) A => (∃ lv D, Li9 E w O6 pre lv D A) ∧ To9 w.heap.size O4 O5 N A) (fun _ _ _ => False)
    (fun s A A' ⟨⟨lv, D, h⟩, h2⟩ k => ⟨⟨lv, D, h.tr k (by have := H4.out; have := HZ.out; omega) (by have := H4.out; have := HZ.out; omega)⟩, h2.tr k (by have := H4.out; have := HZ.out; omega) (by have := H4.out; have := HZ.out; omega) (by have := H4.out; have := HZ.out; omega)⟩) (fun _ _ _ _ h _ => h) ⟨⟨_, _, H4.out.1⟩, H4.out.2.1⟩
    (fun (_ : List EZ) (z : EZ) (a' : Act) (A : World) => ∃ b, a' = { tmps := #[.pointer (some ⟨q, 0, none⟩), .int .i64 N, undef, .pointer (some ⟨w.heap.size, 0, none⟩), .pointer (some ⟨O4, 0, none⟩), .pointer (some ⟨O5, 0, none⟩), .pointer (some ⟨O6, 0, none⟩), .func (.func 115) #[] #[.pointer (some ⟨x, 0, none⟩)], .int .i64 (z.1 : Nat), .pointer (some ⟨b, 0, none⟩), .slice (some ⟨C3, 0, none⟩) 0 0, .pointer (some ⟨q, 0, none⟩), .func (.func 115) #[] #[.pointer (some ⟨x, 0, none⟩)], .func (.func 115) #[] #[.pointer (some ⟨x, 0, none⟩)], .bool false, undef, .func (.func 115) #[] #[.pointer (some ⟨x, 0, none⟩)], .int .i64 (z.1 : Nat), ceV z.2.1, undef, undef, undef, undef, undef, undef, undef, undef, undef, undef, undef, undef, undef, undef, undef, undef], defers := [] } ∧ A.heap[b]? = some (.cells (ceC z.2.1) 84 (0, 0))) (fun _ _ _ _ _ ⟨b, h1, h2⟩ k => ⟨b, h1, k.cells h2⟩) ?assign ?body ?done ?stop
  case hbig => exact HB.out.2.2.2
  case assign =>
    intro l2 pre z W4 K _ _ hK
    obtain ⟨zi, ⟨zk, zt, ⟨z1, z2, z3⟩, zp, zl, zc⟩, zlo, zhi⟩ := z
    simp only [encE9, ceV, slV]
    gi_wp2
    exact hK _ _ ((Below.refl _ _).alloc (Nat.le_refl _) _) ⟨W4.heap.size, rfl, heap_alloc_new W4 _⟩
  case body =>
    rintro l2 pre z a' A hl2 hrec ⟨⟨lv, L, hli⟩, hto⟩ hG ⟨b, rfl, hb⟩
    obtain ⟨hi0, e, he, g1, g2, g3, g4, g5, g6, g7⟩ := hG
    have hec : (cellsL E)[pre.length]? = some e := by
      unfold docC9 at he
      split at he
      · exact he
      · cases he
    have hlt := (List.getElem?_eq_some_iff.1 he).1
    have hll := hli.len
    obtain ⟨zi, ⟨zk, zt, ⟨z1, z2, z3⟩, zp, zl, zc⟩, zlo, zhi⟩ := z
    simp only at hi0
    obtain ⟨pv, cv, rfl⟩ : ∃ p c, lv = .slice p L.length c := by obtain ⟨p, c, h, _⟩ := own_rowC hli.own; exact ⟨p, c, h⟩
    obtain ⟨ln, hln⟩ : ∃ n, L.length = n := ⟨_, rfl⟩
    rw [hln] at hli
    have hzi : zi = ln := by omega
    subst hzi
    have hln63 : L.length + 1 ≤ 33554432 := by have := HB.out; omega
    have hbase : w.heap.size ≤ (A.alloc (.cells (ceC (zk, zt, (z1, z2, z3), zp, zl, zc)) 84)).heap.size := by have := hli.below.size; rw [World.size_alloc]; omega
    have HM : Hid ((A.alloc (.cells (ceC (zk, zt, (z1, z2, z3), zp, zl, zc)) 84)).heap[A.heap.size]? = some (.cells (ceC (zk, zt, (z1, z2, z3), zp, zl, zc)) 84 (0, 0)) ∧ OwnC (A.alloc (.cells (ceC (zk, zt, (z1, z2, z3), zp, zl, zc)) 84)) w.heap.size (.slice pv zi cv) L) := ⟨heap_alloc_new A _, owns_below hli.own ((Below.refl _ _).alloc (Nat.le_refl _) _)⟩
    have HLI : Hid (Li9 E w O6 pre (.slice pv zi cv) L A ∧ (cellsL E)[pre.length]? = some e ∧ (zk = e.1 ∧ zt = e.2.1 ∧ (z1, z2, z3) = e.2.2.1) ∧ InA A zlo zhi (.slice zp zl zc) e.2.2.2 ∧ w4.heap.size ≤ zlo ∧ ∀ y ∈ pre, y.2.2.2 ≤ zlo) := ⟨hli, hec, ⟨g1, g2, g3⟩, g4, g5, g7⟩
    have HTO : Hid (To9 w.heap.size O4 O5 N A) := hto
    have cO : A.cell? ⟨O6, 0, none⟩ = some (.slice pv zi cv) := by rw [cell_of_heap hli.box]; rfl
    have cM : A.cell? ⟨w.heap.size, 0, none⟩ = some (.int .i64 N) := by rw [cell_of_heap hto.m]; rfl
    have b0 : A.cell? ⟨b, 0, none⟩ = some (.int .i32 zk) := by rw [cell_of_heap hb]; rfl
    have b1 : A.cell? ⟨b, 1, none⟩ = some (.string zt) := by rw [cell_of_heap hb]; rfl
    have b2 : A.cell? ⟨b, 2, none⟩ = some (.int .i64 z1) := by rw [cell_of_heap hb]; rfl
    have b3 : A.cell? ⟨b, 3, none⟩ = some (.int .i64 z2) := by rw [cell_of_heap hb]; rfl
    have b4 : A.cell? ⟨b, 4, none⟩ = some (.string z3) := by rw [cell_of_heap hb]; rfl
    have b5 : A.cell? ⟨b, 5, none⟩ = some (.slice zp zl zc) := by rw [cell_of_heap hb]; rfl
    have k1 : ((zi : Int) != zi) = false := bne_self_eq_false _
    have k2 : ¬ ((zi : Int) > N) := by have := HB.out; omega
    clear hli hto he hec g1 g2 g3 g4 g5 g6 g7 hlt hb hi0 hrec hl2 hll hln
    simp only [ceV, slV]
    gi_wp2_with (gi_at_builtin; refine wpListIn_append_cells rfl (.tmp 30) (.tmp 32) rfl w.heap.size (.slice pv zi cv) L rfl HM.out.2 A.heap.size (zk, zt, (z1, z2, z3), zp, zl, zc) rfl HM.out.1 hln63 hbase ?_; intro v' A' own' gr'; obtain ⟨pw, nw, cw, ev⟩ : ∃ p n c, v' = .slice p n c := (by obtain ⟨p, c, h, _⟩ := own_rowC own'; exact ⟨p, _, c, h⟩); subst ev; have hbox := list_box (d := (zk, zt, (z1, z2, z3), zp, zl, zc)) HLI.out.1 gr'; have cO' : A'.cell? ⟨O6, 0, none⟩ = some (.slice pv zi cv) := (by rw [cell_of_heap hbox]; rfl); have fO' : A'.frozen? ⟨O6, 0, none⟩ = false := frozen_of_heap hbox 0; have HBX : Hid ((OwnC A' w.heap.size (.slice pw nw cw) (L ++ [(zk, zt, (z1, z2, z3), zp, zl, zc)]) ∧ (A.alloc (.cells (ceC (zk, zt, (z1, z2, z3), zp, zl, zc)) 84)).grownBy A' (Value.slice pv zi cv).ownBlock) ∧ A'.heap[O6]? = some (.cells #[.slice pv zi cv] 74 (0, 0))) := ⟨⟨own', gr'⟩, hbox⟩; clear own' gr' hbox cO cM b0 b1 b2 b3 b4 b5 HM)
    have HT9 := HTO.out.round (v' := .slice pw nw cw) HLI.out.1 HBX.out.1.2 (by have := HZ.out; omega)
    obtain ⟨x1, x2, x3⟩ := list_round HLI.out.1 HLI.out.2.1 HLI.out.2.2.1 HLI.out.2.2.2.1 HLI.out.2.2.2.2.1 HLI.out.2.2.2.2.2 HBX.out.1.1 HBX.out.1.2 HBX.out.2 (by have := HZ.out; have := H4.out; omega)
    exact ⟨x1, x2, x3, HT9⟩
  case stop => intro D c pre W _ h; exact h.elim
  case done =>
    rintro D xs A hD hS ⟨⟨lv, L, hli⟩, hto⟩ hK
    have cO : A.cell? ⟨O6, 0, none⟩ = some lv := by rw [cell_of_heap hli.box]; rfl
    obtain ⟨pv, cv, rfl⟩ : ∃ p c, lv = .slice p L.length c := by obtain ⟨p, c, h, _⟩ := own_rowC hli.own; exact ⟨p, c, h⟩
    obtain ⟨ln, hln⟩ : ∃ n, L.length = n := ⟨_, rfl⟩
    rw [hln] at hli cO
    obtain ⟨u4, r4⟩ := hto.r
    obtain ⟨u5, r5⟩ := hto.o
    have c4 : A.cell? ⟨O4, 0, none⟩ = some u4 := by rw [cell_of_heap r4]; rfl
    have c5 : A.cell? ⟨O5, 0, none⟩ = some u5 := by rw [cell_of_heap r5]; rfl
    have f4 := frozen_of_heap r4 0
    have f5 := frozen_of_heap r5 0
    have n45 : ¬ O4 = O5 := by have := HZ.out; omega
    have n54 : ¬ O5 = O4 := by have := HZ.out; omega
    have n46 : ¬ O4 = O6 := by have := HZ.out; omega
    have n64 : ¬ O6 = O4 := by have := HZ.out; omega
    have hall : (cellsL E).take xs.length = docC9 E := by
      unfold docC9 at hS ⊢
      split at hS
      · rename_i h0; rw [if_pos h0]; exact List.take_of_length_le (by omega)
      · rename_i h0; rw [if_neg h0, hS]; rfl
    have HF : Hid (Li9 E w O6 xs (.slice pv ln cv) L A ∧ (cellsL E).take xs.length = docC9 E ∧ w4.heap.size ≤ D) := ⟨hli, hall, hD⟩
    clear hli hall hS hD hto hln
    have HT : Hid ((∃ cs, A.heap[O4]? = some (.cells cs 74 (0, 0))) ∧ ∃ cs, A.heap[O5]? = some (.cells cs 4 (0, 0))) := ⟨⟨_, r4⟩, _, r5⟩
    have hw4 : w.heap.size ≤ O4 ∧ w.heap.size ≤ O5 ∧ O4 < D ∧ O5 < D := by have := HZ.out; have := H4.out; have := HF.out.2.2; omega
    clear r4 r5
    gi_wp2
    go_wp2
    obtain ⟨⟨cs4, r4⟩, cs5, r5⟩ := HT.out
    have h8 := HF.out.1.set9 r4 (by decide) (fun e => n46 e) hw4.1 (.slice pv ln cv)
    have r5' := (Below.heap_setCell A ⟨O4, 0, none⟩ (.slice pv ln cv) O5 n54).trans r5
    have h9 := h8.set9 r5' (by decide) (fun e => by have := HZ.out; omega) hw4.2.1 (.bool true)
    have hK' : ((A.setCell ⟨O4, 0, none⟩ (.slice pv ln cv)).setCell ⟨O5, 0, none⟩ (.bool true)).heap[D]? = some (.deferred (some [])) := (Below.heap_setCell _ _ _ _ (show D ≠ O5 by omega)).trans ((Below.heap_setCell _ _ _ _ (show D ≠ O4 by omega)).trans hK)
    have q4 : ((A.setCell ⟨O4, 0, none⟩ (.slice pv ln cv)).setCell ⟨O5, 0, none⟩ (.bool true)).cell? ⟨O4, 0, none⟩ = some (.slice pv ln cv) := by
      have e1 := heap_set_at A O4 0 (.slice pv ln cv) _ _ _ r4
      have hz : 0 < cs4.size := by rw [cell_of_heap r4] at c4; exact (Array.getElem?_eq_some_iff.1 c4).1
      rw [World.cell?_of_block (a := ⟨O4, 0, none⟩) (w := A.setCell ⟨O4, 0, none⟩ (.slice pv ln cv)) (Below.heap_setCell _ _ _ _ n45), cell_of_heap e1]
      simp [hz]
    have q5 : ((A.setCell ⟨O4, 0, none⟩ (.slice pv ln cv)).setCell ⟨O5, 0, none⟩ (.bool true)).cell? ⟨O5, 0, none⟩ = some (.bool true) := by
      have e1 := heap_set_at (A.setCell ⟨O4, 0, none⟩ (.slice pv ln cv)) O5 0 (.bool true) _ _ _ r5'
      have hz : 0 < cs5.size := by rw [cell_of_heap r5] at c5; exact (Array.getElem?_eq_some_iff.1 c5).1
      rw [cell_of_heap e1]
      simp [hz]
    have h10 := h9.tr (tr7_put9 (T := fun t => t = 3) (o' := .deferred none) hK' (Nat.le_refl _)) (by have := HZ.out; have := HF.out.2.2; have := H4.out; omega) (by omega)
    exact told_leave _ D O4 O5 _ (.slice pv ln cv) rfl rfl hK' q4 q5 (by omega) (by omega) ⟨⟨L, h10.own, by rw [← HF.out.2.1]; exact h10.are, h10.asc⟩, h10.below⟩
end Go.Proofs.YthfpmhnnjjikcaaGreatDoor

/- A region that draws its order, in a round of a range over a function: the plain kit's walk of it (held at S) serves: its laws, and those by which it is walked by hand. -/
namespace Go.Proofs.YthfpmhnnjjikcaaGreatDoor
open Go
set_option linter.unusedVariables false

section
variable {n l : Nat} {P : Program} {ops : Array Oper} {Q : Exit → Act → World → Prop} {md : Region.Mode} {S : World → Prop}
theorem op_round {o : Oper} {a : Act} {w : World} {K : Act → World → Prop} (hd : ∀ c, o.op ≠ .defer c) (h : o.wp P a w K Q) : o.wpIn (Fence.wide.inRound l) n P a w K Q := by
  refine ⟨fun _ _ => trivial, ?_⟩
  rw [Oper.semAt_plain _ _ _ hd]
  unfold Oper.wp at h
  generalize (execOp a.eval o).run P w = r at *
  cases r with
  | ok x w' =>
    cases x <;> simp only [Oper.upon, Oper.uponIn] at h ⊢ <;>
      first
        | exact h
        | exact ⟨fun hh => (by cases hh), CallsIn.inRound l (callsIn_wide.2 h)⟩
        | (refine ⟨fun hh => (by cases hh), fun c cs hr => ?_⟩
           obtain ⟨v, w'', r, s⟩ := h c cs
           exact ⟨v, w'', r, stepsIn_wide.2 s⟩)
  | halt x w' => cases x <;> simp only [Oper.upon, Oper.uponIn] at h ⊢ <;> exact h
theorem any_round (hno : ¬ LetsOut Q) (hd : ∀ (i : Nat) (o : Oper), ops[i]? = some o → ∀ c, o.op ≠ .defer c) : ∀ (fuel : Nat) (listed : Array Bool) (a : Act) (w : World), wpAny P md ops Q fuel listed a w → wpAnyIn (Fence.wide.inRound l) n P md ops Q fuel listed a w
  | 0, _, _, _, h => h
  | fuel + 1, listed, a, w, h => by
    refine ⟨h.1, fun i hi => ?_⟩
    have hh := h.2 i hi
    unfold wpOp at hh
    unfold wpOpIn
    cases ho : ops[i]? with
    | none => rw [ho] at hh; exact any_round hno hd fuel _ _ _ hh
    | some o =>
      rw [ho] at hh
      simp only at hh ⊢
      split
      · rename_i hw
        rw [if_pos hw] at hh
        exact Oper.wpIn_mono (fun a w => any_round hno hd fuel _ a w) (op_round (hd i o ho) (hh.elim id fun h => (hno h.2).elim))
      · rename_i hw
        rw [if_neg hw] at hh
        exact ⟨fun _ _ => trivial, any_round hno hd fuel _ _ _ hh⟩
theorem region_round_held {id : Nat} {a : Act} {w : World} (hm : P.follows .mixedOrders = true) (hd : (ops.all fun o => match o.op with | .defer _ => false | _ => true) = true) (hno : ¬ LetsOut Q) (hS : S w.drew)
    (h : S w.drew → wpAnyH P .any ops Q S ops.size (Array.replicate ops.size false) a w.drew) : (Code.region id ops true).wpIn (Fence.wide.inRound l) n P Q a w := by
  refine wpIn_region_any hm (any_round hno (fun i o ho c hc => ?_) _ _ _ _ (wpAny_of_held _ _ _ _ (h hS)))
  have := Array.all_eq_true_iff_forall_mem.1 hd o (Array.mem_of_getElem? ho)
  rw [hc] at this
  cases this
end
/-- An operation that never comes up. -/
def dOp : Oper := { dst := none, op := Op.move (.tmp 0), type := 0, pos := "", after := #[], guard := none }
/-- The operation with number i. -/
def nthO (d : Oper) : List Oper → Nat → Oper
  | [], _ => d
  | o :: _, 0 => o
  | _ :: t, i + 1 => nthO d t i
section
variable {P : Program} {Q : Exit → Act → World → Prop} {md : Region.Mode} {S : World → Prop}
/-- An operation that yields in every world that meets S is taken first. -/
theorem take_L (d : Oper) {L : List Oper} (i : Nat) (v : Value) {fuel : Nat} {listed : Array Bool} {a : Act} {w : World} (hi : L.toArray[i]? = some (nthO d L i))
    (hs : Region.noSelect L.toArray = true) (hf : Region.free md L.toArray listed i = true) (hr : (Region.ready md L.toArray listed).contains i = true)
    (hQ : ∀ c a (o : Option Tmp) v w, Q (.panic c) (a.put o v) w → Q (.panic c) a w) (hw : Region.wanted (nthO d L i) (yielded L.toArray a.tmps) = true)
    (hS : S w) (hy : ∀ w, S w → (execOp a.eval (nthO d L i)).run P w = .ok (.value v) w)
    (h : wpAnyH P md L.toArray Q S fuel (listed.setIfInBounds i true) (a.put (nthO d L i).dst v) w) : wpAnyH P md L.toArray Q S (fuel + 1) listed a w :=
  wpAnyH_take hi hs hf hr (fun c a w => hQ c a _ _ w) (Or.inl ⟨hw, hy⟩) hS h
/-- One operation alone may come up. -/
theorem one_L (d : Oper) {L : List Oper} (i : Nat) {fuel : Nat} {listed : Array Bool} {a : Act} {w : World} (hi : L.toArray[i]? = some (nthO d L i)) (hr : Region.ready md L.toArray listed = [i])
    (h : ∀ K' : Act → World → Prop, Shut (∀ a w, S w → (S w → wpAnyH P md L.toArray Q S fuel (listed.setIfInBounds i true) a w) → K' a w) → if Region.wanted (nthO d L i) (yielded L.toArray a.tmps) = true then Oper.wp P (nthO d L i) a w K' Q else K' (a.put (nthO d L i).dst undef) w) : wpAnyH P md L.toArray Q S (fuel + 1) listed a w :=
  wpAnyH_ready hr (by simp) (AllReadyH.cons hi h AllReadyH.nil)
end
end Go.Proofs.YthfpmhnnjjikcaaGreatDoor

/- vellumlaw09.stops: cells.Each, stopped. -/
namespace Go.Proofs.YthfpmhnnjjikcaaGreatDoor
open Go Go.RowKit Go.Lib Go.Shelf
set_option linter.unusedVariables false
attribute [local go_sem] Oper.semAt_some
/-- What stops has laid for itself, behind k rounds. -/
structure So9 (w : World) (B4 B5 B6 O : Nat) (bv : Value) (stop : Int) (k : Nat) (A : World) : Prop where
  a : A.heap[B4]? = some (.cells #[bv] 74 (0, 0))
  b : A.heap[B5]? = some (.cells #[.int .i64 stop] 3 (0, 0))
  c : ∃ u, A.heap[B6]? = some (.cells #[u] 4 (0, 0))
  n : A.heap[O]? = some (.cells #[.int .i64 k] 3 (0, 0))
  below : Below w.heap.size w A
theorem So9.tr {w : World} {B4 B5 B6 O B : Nat} {bv : Value} {stop : Int} {k : Nat} {A A' : World} (h : So9 w B4 B5 B6 O bv stop k A) (t : Tr7 (fun t => t = 3) B A A') (hB : B4 < B ∧ B5 < B ∧ B6 < B ∧ O < B ∧ w.heap.size ≤ B) : So9 w B4 B5 B6 O bv stop k A' := by
  obtain ⟨u, hc⟩ := h.c
  exact ⟨t.kept _ _ h.a (.inl hB.1), t.kept _ _ h.b (.inl hB.2.1), ⟨u, t.kept _ _ hc (.inl hB.2.2.1)⟩, t.kept _ _ h.n (.inl hB.2.2.2.1), tr_below8 h.below (Nat.le_refl _) hB.2.2.2.2 t⟩
theorem So9.step {w : World} {B4 B5 B6 O : Nat} {bv : Value} {stop : Int} {k : Nat} {A W : World} (h : So9 w B4 B5 B6 O bv stop k A) (b : Below A.heap.size A W) (hO : B4 ≠ O ∧ B5 ≠ O ∧ B6 ≠ O ∧ w.heap.size ≤ O) (B0 Bz : Nat) (hz : O < B0) (pre : List EZ) (x : EZ) :
    KeepsFrom Bz A (W.setCell ⟨O, 0, none⟩ (.int .i64 ((k : Int) + 1))) ∧ KE9 B0 pre x A (W.setCell ⟨O, 0, none⟩ (.int .i64 ((k : Int) + 1))) ∧ So9 w B4 B5 B6 O bv stop (k + 1) (W.setCell ⟨O, 0, none⟩ (.int .i64 ((k : Int) + 1))) := by
  have hn := heap_below b h.n
  obtain ⟨u, hc⟩ := h.c
  have oth : ∀ (j : Nat) (o : Obj), A.heap[j]? = some o → j ≠ O → (W.setCell ⟨O, 0, none⟩ (.int .i64 ((k : Int) + 1))).heap[j]? = some o := fun j o hj hne => (Below.heap_setCell _ _ _ _ hne).trans (heap_below b hj)
  have ne : ∀ (j : Nat) (o : Obj), A.heap[j]? = some o → (∀ cs, o ≠ .cells cs 3 (0, 0)) → j ≠ O := fun j o hj ho e => by subst e; rw [h.n] at hj; exact ho _ (Option.some.inj hj).symm
  have hs : A.heap.size ≤ (W.setCell ⟨O, 0, none⟩ (.int .i64 ((k : Int) + 1))).heap.size := by have := b.size; simp; omega
  refine ⟨⟨hs, fun j o _ hj hq => oth j o hj (ne j o hj fun cs e => by rw [e] at hq; cases hq)⟩, ⟨hs, fun j cs t hj ht => oth j _ hj (fun e => ?_), fun j t p hj => oth j _ hj (ne j _ hj fun cs e => by cases e), fun j cs hj _ => oth j _ hj (ne j _ hj fun cs e => by cases e)⟩, oth _ _ h.a hO.1, oth _ _ h.b hO.2.1, ⟨u, oth _ _ hc hO.2.2.1⟩, ?_, (h.below.trans (b.mono h.below.size)).setCell (p := ⟨O, 0, none⟩) hO.2.2.2 _⟩
  · subst e
    rw [h.n] at hj
    simp only [Option.some.injEq, Obj.cells.injEq] at hj
    obtain ⟨_, ht', _⟩ := hj
    subst ht'
    rcases ht with ht | ht | ht | ht
    · exact absurd ht (by decide)
    · exact absurd ht (by decide)
    · exact absurd ht (by decide)
    · omega
  · have := heap_set_at W O 0 (.int .i64 ((k : Int) + 1)) _ _ _ hn
    simpa using this
theorem Tr7.below_put9 {n D : Nat} {w A : World} {o o' : Obj} (h : Below n w A) (hK : A.heap[D]? = some o) (hD : n ≤ D) : Below n w (A.putObj D o') :=
  ⟨h.os, h.tape, h.output, by have := h.size; simpa using this, fun k hk => (World.putObj_heap_other (by omega)).trans (h.block k hk)⟩
theorem stops_leave (A : World) (D B6 : Nat) (tmps : Array Value) {R : World → Prop} (h6 : tmps[6]? = some (.pointer (some ⟨B6, 0, none⟩))) (hK : A.heap[D]? = some (.deferred (some []))) (c6 : A.cell? ⟨B6, 0, none⟩ = some (.bool true)) (n6 : B6 ≠ D) (h : R (A.putObj D (.deferred none))) :
    bodyPostM Fence.wide 15 Tryz.prog Tryz.f41 (fun r w' => r = .returned (.bool true) ∧ R w') Exit.ret { tmps := tmps, defers := [{ target := .collected D, args := #[] }] } A := by
  have g6 : (A.putObj D (.deferred none)).cell? ⟨B6, 0, none⟩ = some (.bool true) := (World.cell?_of_block (a := ⟨B6, 0, none⟩) (World.putObj_heap_other n6)).trans c6
  refine ⟨by simp, .inl ⟨_, _, rfl, run_takeDeferred hK, ?_⟩⟩
  refine ⟨.bool true, ?_, ⟨rfl, h⟩⟩
  simp [results, Tryz.results41, go_sem, h6, g6]
set_option maxHeartbeats 8000000 in
set_option maxRecDepth 100000 in
theorem stops9_any {B1 B2 : Nat} (v bv : Value) (E : List Op5) (D0 : List CV) (stop : Int) (w : World) (h : DlE w B1 B2 v E) (hb : RowC w bv D0) (ha : Are w D0 (docC9 E)) (hl : (docC9 E).length ≤ 2097152) (hA : ∀ e ∈ docC9 E, e.2.2.2.length ≤ 4194304) (hbg : (cellsL E).length ≤ 1099511627776) :
    Calls Tryz.prog 41 #[v, bv, .int .i64 stop] w fun r w' => r = .returned (.bool true) ∧ Below w.heap.size w w' := by
  have cE : Hid (∀ W, Below w.heap.size w W → Calls Tryz.prog 84 #[v] W fun r w' => ∃ x, r = .returned (.func (.func 115) #[] #[.pointer (some ⟨x, 0, none⟩)]) ∧ (∃ u, w'.cell? ⟨x, 0, none⟩ = some u ∧ DlE w' B1 B2 u E) ∧ Below W.heap.size W w') := fun W hW => by
    refine (eachC_call v E W (h.d.below hW)).mono ?_
    rintro r w' ⟨x, e, ⟨u, h1, h2⟩, _, h3⟩
    exact ⟨x, e, ⟨u, h1, ⟨h2, h.g, h.fit, h.len, h.txt, h.fits⟩⟩, h3⟩
  obtain ⟨q, rfl⟩ : ∃ q, v = .pointer (some ⟨q, 0, none⟩) := by obtain ⟨q, _, _, e, _⟩ := h.d; exact ⟨q, e⟩
  have hDA := forall2_len ha
  obtain ⟨m, hm⟩ : ∃ m, D0.length = m := ⟨_, rfl⟩
  obtain ⟨pb, cb, rfl, hcb, _, hin⟩ := hb
  have HB : Hid ((docC9 E).length = m ∧ D0.length = m ∧ m ≤ 2097152 ∧ (∀ e ∈ docC9 E, e.2.2.2.length ≤ 4194304) ∧ (cellsL E).length ≤ 1099511627776) := ⟨by omega, hm, by omega, hA, hbg⟩
  have HD0 : Hid (Are w D0 (docC9 E) ∧ (D0 ≠ [] → ∃ b off, pb = some ⟨b, off, none⟩ ∧ InC w b off D0)) := ⟨ha, hin⟩
  rw [hm] at hcb ⊢
  clear h hl hA hbg ha hin hDA hm
  obtain ⟨O4, hO4⟩ : ∃ x, x = w.heap.size := ⟨_, rfl⟩
  obtain ⟨O5, hO5⟩ : ∃ x, x = w.heap.size + 1 := ⟨_, rfl⟩
  obtain ⟨O6, hO6⟩ : ∃ x, x = w.heap.size + 1 + 1 := ⟨_, rfl⟩
  obtain ⟨W3, hW3⟩ : ∃ W, W = ((w.alloc (.cells #[.slice pb m cb] 74)).alloc (.cells #[.int .i64 stop] 3)).alloc (.cells #[.bool false] 4) := ⟨_, rfl⟩
  have b3 : Below w.heap.size w W3 := by
    rw [hW3]
    exact ((((Below.refl _ _).alloc (Nat.le_refl _) _).alloc (by simp) _).alloc (by simp <;> omega) _)
  have hs3 : W3.heap.size = w.heap.size + 3 := by rw [hW3]; simp
  have h4 : W3.heap[O4]? = some (.cells #[.slice pb m cb] 74 (0, 0)) := by
    rw [hW3, hO4, Below.heap_alloc _ _ _ (by simp <;> omega), Below.heap_alloc _ _ _ (by simp)]; exact heap_alloc_new w _
  have h5 : W3.heap[O5]? = some (.cells #[.int .i64 stop] 3 (0, 0)) := by
    rw [hW3, hO5, Below.heap_alloc _ _ _ (by simp)]
    have := heap_alloc_new (w.alloc (.cells #[.slice pb m cb] 74)) (.cells #[.int .i64 stop] 3)
    rwa [World.size_alloc] at this
  have h6 : W3.heap[O6]? = some (.cells #[.bool false] 4 (0, 0)) := by
    rw [hW3, hO6]
    have := heap_alloc_new ((w.alloc (.cells #[.slice pb m cb] 74)).alloc (.cells #[.int .i64 stop] 3)) (.cells #[.bool false] 4)
    rwa [World.size_alloc, World.size_alloc] at this
  have c3 := cE.out W3 b3
  have HL3 : Hid (Below w.heap.size w W3 ∧ W3.heap.size = w.heap.size + 3 ∧ W3.heap[O4]? = some (.cells #[.slice pb m cb] 74 (0, 0)) ∧ W3.heap[O5]? = some (.cells #[.int .i64 stop] 3 (0, 0)) ∧ W3.heap[O6]? = some (.cells #[.bool false] 4 (0, 0))) := ⟨b3, hs3, h4, h5, h6⟩
  have hnf : ∀ (X9 : Nat) (W : World), (binOp .eql 149 (.func (.func 115) #[] #[.pointer (some ⟨X9, 0, none⟩)]) .nilFunc).run Tryz.prog W = .ok (.bool false) W := fun X9 W => by kernel_rfl
  have HZ : Hid (O4 = w.heap.size ∧ O5 = w.heap.size + 1 ∧ O6 = w.heap.size + 2) := ⟨by omega, by omega, by omega⟩
  clear b3 hs3 h4 h5 h6 cE
  refine (callsIn_wide (n := 15)).1 ?_
  refine callsIn_of_wp_marks Tryz.func41 rfl trivial ?_ rfl
  simp only [Tryz.ntmps41, List.size_toArray, List.length_cons, List.length_nil, Nat.reduceAdd, Nat.reduceSub, Array.replicate_succ, Array.replicate_zero, List.push_toArray, List.append_toArray, List.nil_append, List.cons_append]
  rw [wpIn_wide]
  go_upto_region 1 with fail
  rw [← hO6, ← hO5, ← hO4, ← hW3]
  clear hW3 hO4 hO5 hO6
  go_wp2_with fail
  refine c3.mono ?_; rintro r w4 ⟨x, rfl, ⟨u, hx1, hx2⟩, hb4⟩
  obtain ⟨W5, hW5⟩ : ∃ W, W = w4.alloc (.cells #[.int .i64 0] 3) := ⟨_, rfl⟩
  obtain ⟨O, hO⟩ : ∃ O, O = w4.heap.size := ⟨_, rfl⟩
  have bA : Below w4.heap.size w4 W5 := by rw [hW5]; exact (Below.refl _ _).alloc (Nat.le_refl _) _
  have hnO : W5.heap[O]? = some (.cells #[.int .i64 0] 3 (0, 0)) := by rw [hW5, hO]; exact heap_alloc_new w4 _
  have H5 : Hid (So9 w O4 O5 O6 O (.slice pb m cb) stop 0 W5 ∧ (∃ u, W5.cell? ⟨x, 0, none⟩ = some u ∧ DlE W5 B1 B2 u E) ∧ W5.heap.size = O + 1 ∧ w.heap.size + 3 ≤ O) := by
    obtain ⟨k1, k2, k3, k4, k5⟩ := HL3.out
    have hs4 := hb4.size
    refine ⟨⟨heap_below bA (heap_below hb4 k3), heap_below bA (heap_below hb4 k4), ⟨_, heap_below bA (heap_below hb4 k5)⟩, hnO, ?_⟩, ⟨u, (bA.cell (lt_of_cell hx1)).trans hx1, hx2.below bA⟩, by rw [hW5, hO]; simp, by omega⟩
    have b4 := k1.trans (hb4.mono k1.size)
    exact b4.trans (bA.mono b4.size)
  have hn9 := hnf x
  clear c3 hx1 hx2 hb4 HL3 hnf bA hnO
  go_wp2_with fail
  rw [← hO, ← hW5]
  clear hW5 hO
  refine (wpIn_wide (n := 15)).1 ?_
  refine wpIn_rangeFunc_GA (encs := encE9) rfl (by decide) (gf := 115) (lb := #[.pointer (some ⟨x, 0, none⟩)]) rfl trivial (enters_of Tryz.func115 (by kernel_rfl) rfl)
    (eachC_seq E W5 x H5.out.2.1 (docC9 E).length HB.out.2.2.2.2 (by unfold docC9; split <;> rfl) 14 (by decide)) (Below.refl _ _) (fun _ => rfl) (fun pre x A A' h k => h.bk k) (fun pre x A A' B B' k1 h k2 => KE9.bk k1 h k2)
    (fun (pre : List EZ) A => So9 w O4 O5 O6 O (.slice pb m cb) stop pre.length A) (fun c pre A => c = .exit 0 ∧ So9 w O4 O5 O6 O (.slice pb m cb) stop pre.length A ∧ (pre.length : Int) = stop)
    (fun s A A' h k => h.tr k (by have := H5.out; have := HZ.out; omega)) (fun c s A A' ⟨h1, h2, h3⟩ k => ⟨h1, h2.tr k (by have := H5.out; have := HZ.out; omega), h3⟩) H5.out.1
    (fun (_ : List EZ) (z : EZ) (a' : Act) (A : World) => ∃ b, a' = { tmps := #[.pointer (some ⟨q, 0, none⟩), .slice pb m cb, .int .i64 stop, undef, .pointer (some ⟨O4, 0, none⟩), .pointer (some ⟨O5, 0, none⟩), .pointer (some ⟨O6, 0, none⟩), .func (.func 115) #[] #[.pointer (some ⟨x, 0, none⟩)], .pointer (some ⟨O, 0, none⟩), .int .i64 (z.1 : Nat), .pointer (some ⟨b, 0, none⟩), .pointer (some ⟨q, 0, none⟩), .func (.func 115) #[] #[.pointer (some ⟨x, 0, none⟩)], .func (.func 115) #[] #[.pointer (some ⟨x, 0, none⟩)], .bool false, .func (.func 115) #[] #[.pointer (some ⟨x, 0, none⟩)], .int .i64 (z.1 : Nat), ceV z.2.1, undef, undef, undef, undef, undef, undef, undef, undef, undef, undef, undef, undef, undef, undef, undef, undef, undef, undef, undef, undef, undef, undef, undef, undef, undef, undef, undef], defers := [] } ∧ A.heap[b]? = some (.cells (ceC z.2.1) 84 (0, 0))) (fun _ _ _ _ _ ⟨b, h1, h2⟩ k => ⟨b, h1, k.cells h2⟩) ?assign ?body ?done ?stop
  case assign =>
    intro l2 pre z W4 K _ _ hK
    obtain ⟨zi, ⟨zk, zt, ⟨z1, z2, z3⟩, zp, zl, zc⟩, zlo, zhi⟩ := z
    simp only [encE9, ceV, slV]
    gi_wp2
    exact hK _ _ ((Below.refl _ _).alloc (Nat.le_refl _) _) ⟨W4.heap.size, rfl, heap_alloc_new W4 _⟩
  case body =>
    rintro l2 pre z a' A hl2 hrec hso hG ⟨b, rfl, hb⟩
    obtain ⟨hi0, e, he, g1, g2, g3, g4, g5, g6, g7⟩ := hG
    have hlt := (List.getElem?_eq_some_iff.1 he).1
    obtain ⟨d, hd⟩ : ∃ d, D0[pre.length]? = some d := ⟨_, List.getElem?_eq_getElem (by have := HB.out; omega)⟩
    obtain ⟨e', he', hr⟩ := forall2_get HD0.out.1 _ d hd
    obtain rfl : e' = e := Option.some.inj (he'.symm.trans he)
    have hem := HB.out.2.2.2.1 e' (List.mem_of_getElem? he)
    obtain ⟨k, hk⟩ : ∃ k, pre.length = k := ⟨_, rfl⟩
    rw [hk] at hso he hd hlt hi0
    obtain ⟨zi, ⟨zk, zt, ⟨z1, z2, z3⟩, zp, zl, zc⟩, zlo, zhi⟩ := z
    simp only at hi0 g1 g2 g3 g4
    subst hi0
    obtain ⟨bb, off, rfl, hin⟩ := HD0.out.2 (by intro e; rw [e] at hd; simp at hd)
    obtain ⟨x0, x1, x2, x3, x4, x5⟩ := cellsC_get D0 zi d hd
    have c0 := (hin.below hso.below) _ _ x0
    have c1 := (hin.below hso.below) _ _ x1
    have c2 := (hin.below hso.below) _ _ x2
    have c3 := (hin.below hso.below) _ _ x3
    have c4 := (hin.below hso.below) _ _ x4
    have c5 := (hin.below hso.below) _ _ x5
    simp only [← Nat.add_assoc] at c0 c1 c2 c3 c4 c5
    have cw : A.cell? ⟨O4, 0, none⟩ = some (.slice (some ⟨bb, off, none⟩) m cb) := by rw [cell_of_heap hso.a]; rfl
    have cs : A.cell? ⟨O5, 0, none⟩ = some (.int .i64 stop) := by rw [cell_of_heap hso.b]; rfl
    have cn : A.cell? ⟨O, 0, none⟩ = some (.int .i64 zi) := by rw [cell_of_heap hso.n]; rfl
    have b0 : A.cell? ⟨b, 0, none⟩ = some (.int .i32 zk) := by rw [cell_of_heap hb]; rfl
    have b1 : A.cell? ⟨b, 1, none⟩ = some (.string zt) := by rw [cell_of_heap hb]; rfl
    have b2 : A.cell? ⟨b, 2, none⟩ = some (.int .i64 z1) := by rw [cell_of_heap hb]; rfl
    have b3 : A.cell? ⟨b, 3, none⟩ = some (.int .i64 z2) := by rw [cell_of_heap hb]; rfl
    have b4 : A.cell? ⟨b, 4, none⟩ = some (.string z3) := by rw [cell_of_heap hb]; rfl
    have b5 : A.cell? ⟨b, 5, none⟩ = some (.slice zp zl zc) := by rw [cell_of_heap hb]; rfl
    have hDB : ∀ W, Below A.heap.size A W → RN W (slV d.2.2.2) e'.2.2.2 := fun W hW => (hr.2.2.2.below hso.below).below hW
    have hd4 := ce_of (w := w) hr
    have cS : Hid (∀ W, Below A.heap.size A W → Calls Tryz.prog 40 #[.agg #[.int .i32 zk, .string zt, .int .i64 z1, .int .i64 z2, .string z3, .slice zp zl zc], ceV d] W fun r w' => r = .returned (.bool true) ∧ Below A.heap.size A w') := fun W hW => from_below hW (by
      have hR := hDB W hW
      rw [hd4]
      have := sameR9_any e' e' (.slice zp zl zc) (slV d.2.2.2) W ((g4.below hW).row) hR.row hem hem
      rw [decide_eq_true rfl] at this
      rw [show (.agg #[.int .i32 zk, .string zt, .int .i64 z1, .int .i64 z2, .string z3, .slice zp zl zc] : Value) = ceP e' (.slice zp zl zc) from ce_of (w := A) (d := (zk, zt, (z1, z2, z3), zp, zl, zc)) ⟨g1, g2, g3, own_RN g4.own⟩]
      exact this)
    have HSO : Hid (So9 w O4 O5 O6 O (.slice (some ⟨bb, off, none⟩) m cb) stop zi A ∧ pre.length = zi) := ⟨hso, hk⟩
    have hltm : zi < m := by have := HB.out; omega
    have hltI : (zi : Int) < m := by omega
    have hge : ¬ (zi : Int) ≥ m := by omega
    have hgB : decide ((zi : Int) ≥ (m : Int)) = false := decide_eq_false (by omega)
    have hgB2 : decide ((m : Int) ≤ (zi : Int)) = false := decide_eq_false (by omega)
    have hgB3 : decide (m ≤ zi) = false := decide_eq_false (by omega)
    have hz0 : (0 : Int) ≤ (zi : Int) := by omega
    have hz1 : IntKind.i64.wrap ((zi : Int) + 1) = zi + 1 := by have := HB.out; rw [IntKind.wrap_i64]; omega
    obtain ⟨dk, dt, ⟨dx, dn, du⟩, dp, dl, dcap⟩ := d
    simp only [slV, ceV] at c0 c1 c2 c3 c4 c5 cS
    have HU : Hid (∀ W, Below A.heap.size A W → (W.cell? ⟨O4, 0, none⟩ = some (.slice (some ⟨bb, off, none⟩) m cb) ∧ (W.cell? ⟨b, 0, none⟩ = some (.int .i32 zk) ∧ W.cell? ⟨b, 1, none⟩ = some (.string zt) ∧ W.cell? ⟨b, 2, none⟩ = some (.int .i64 z1) ∧ W.cell? ⟨b, 3, none⟩ = some (.int .i64 z2) ∧ W.cell? ⟨b, 4, none⟩ = some (.string z3) ∧ W.cell? ⟨b, 5, none⟩ = some (.slice zp zl zc)) ∧ W.cell? ⟨bb, off + zi * 6, none⟩ = some (.int .i32 dk) ∧ W.cell? ⟨bb, off + zi * 6 + 1, none⟩ = some (.string dt) ∧ W.cell? ⟨bb, off + zi * 6 + 2, none⟩ = some (.int .i64 dx) ∧ W.cell? ⟨bb, off + zi * 6 + 3, none⟩ = some (.int .i64 dn) ∧ W.cell? ⟨bb, off + zi * 6 + 4, none⟩ = some (.string du) ∧ W.cell? ⟨bb, off + zi * 6 + 5, none⟩ = some (.slice dp dl dcap))) := fun W hW => ⟨(hW.cell (lt_of_cell cw)).trans cw, ⟨(hW.cell (lt_of_cell b0)).trans b0, (hW.cell (lt_of_cell b1)).trans b1, (hW.cell (lt_of_cell b2)).trans b2, (hW.cell (lt_of_cell b3)).trans b3, (hW.cell (lt_of_cell b4)).trans b4, (hW.cell (lt_of_cell b5)).trans b5⟩, (hW.cell (lt_of_cell c0)).trans c0, (hW.cell (lt_of_cell c1)).trans c1, (hW.cell (lt_of_cell c2)).trans c2, (hW.cell (lt_of_cell c3)).trans c3, (hW.cell (lt_of_cell c4)).trans c4, (hW.cell (lt_of_cell c5)).trans c5⟩
    have HC : Hid (∀ W, Below A.heap.size A W → W.cell? ⟨O5, 0, none⟩ = some (.int .i64 stop) ∧ W.cell? ⟨O, 0, none⟩ = some (.int .i64 zi) ∧ W.frozen? ⟨O, 0, none⟩ = false) := fun W hW => ⟨(hW.cell (lt_of_cell cs)).trans cs, (hW.cell (lt_of_cell cn)).trans cn, frozen_of_heap (heap_below hW hso.n) 0⟩
    have HMD := Hid.mkh (HU.out _ (Below.refl A.heap.size A).drew)
    have bd : Below A.heap.size A A.drew := (Below.refl _ _).drew
    clear hso he hd g1 g2 g3 g4 g5 g6 g7 hlt hb hrec hl2 hk c0 c1 c2 c3 c4 c5 cw cs cn b0 b1 b2 b3 b4 b5 hin hr he' hem hDB hd4 x0 x1 x2 x3 x4 x5
    simp only [ceV, slV]
    gi_wp2
    refine region_round_held (S := (fun w' => (w'.cell? ⟨O4, 0, none⟩ = some (.slice (some ⟨bb, off, none⟩) m cb) ∧ (w'.cell? ⟨b, 0, none⟩ = some (.int .i32 zk) ∧ w'.cell? ⟨b, 1, none⟩ = some (.string zt) ∧ w'.cell? ⟨b, 2, none⟩ = some (.int .i64 z1) ∧ w'.cell? ⟨b, 3, none⟩ = some (.int .i64 z2) ∧ w'.cell? ⟨b, 4, none⟩ = some (.string z3) ∧ w'.cell? ⟨b, 5, none⟩ = some (.slice zp zl zc)) ∧ w'.cell? ⟨bb, off + zi * 6, none⟩ = some (.int .i32 dk) ∧ w'.cell? ⟨bb, off + zi * 6 + 1, none⟩ = some (.string dt) ∧ w'.cell? ⟨bb, off + zi * 6 + 2, none⟩ = some (.int .i64 dx) ∧ w'.cell? ⟨bb, off + zi * 6 + 3, none⟩ = some (.int .i64 dn) ∧ w'.cell? ⟨bb, off + zi * 6 + 4, none⟩ = some (.string du) ∧ w'.cell? ⟨bb, off + zi * 6 + 5, none⟩ = some (.slice dp dl dcap)) ∧ Below A.heap.size A w')) (by kernel_rfl) (by kernel_rfl) (fun ⟨_, _, h⟩ => h) ?_ (fun hHeld => ?_)
    · (try dsimp only); exact ⟨by first | (with_reducible assumption) | exact HMD.out, by first | (with_reducible assumption)⟩
    refine take_L dOp 0 ?_ (by kernel_rfl) (by kernel_rfl) (by kernel_rfl) (by kernel_rfl) (fun _ _ _ _ _ h => h) (by rfl) hHeld (fun w hSw => ?_) ?_
    rotate_left
    · (try dsimp only at hSw); simp only [nthO]; go_simp; first | done | with_reducible rfl
    simp only [nthO, Act.put, List.setIfInBounds_toArray, List.set_cons_zero, List.set_cons_succ]
    refine take_L dOp 1 ?_ (by kernel_rfl) (by kernel_rfl) (by kernel_rfl) (by kernel_rfl) (fun _ _ _ _ _ h => h) (by rfl) hHeld (fun w hSw => ?_) ?_
    rotate_left
    · (try dsimp only at hSw); simp only [nthO]; go_simp; first | done | with_reducible rfl
    simp only [nthO, Act.put, List.setIfInBounds_toArray, List.set_cons_zero, List.set_cons_succ]
    refine take_L dOp 2 ?_ (by kernel_rfl) (by kernel_rfl) (by kernel_rfl) (by kernel_rfl) (fun _ _ _ _ _ h => h) (by rfl) hHeld (fun w hSw => ?_) ?_
    rotate_left
    · (try dsimp only at hSw); simp only [nthO]; go_simp; first | done | with_reducible rfl
    simp only [nthO, Act.put, List.setIfInBounds_toArray, List.set_cons_zero, List.set_cons_succ]
    refine take_L dOp 3 ?_ (by kernel_rfl) (by kernel_rfl) (by kernel_rfl) (by kernel_rfl) (fun _ _ _ _ _ h => h) (by rfl) hHeld (fun w hSw => ?_) ?_
    rotate_left
    · (try dsimp only at hSw); simp only [nthO]; go_simp; first | done | with_reducible rfl
    simp only [nthO, Act.put, List.setIfInBounds_toArray, List.set_cons_zero, List.set_cons_succ]
    refine take_L dOp 4 ?_ (by kernel_rfl) (by kernel_rfl) (by kernel_rfl) (by kernel_rfl) (fun _ _ _ _ _ h => h) (by rfl) hHeld (fun w hSw => ?_) ?_
    rotate_left
    · (try dsimp only at hSw); simp only [nthO]; go_simp; first | done | with_reducible rfl
    simp only [nthO, Act.put, List.setIfInBounds_toArray, List.set_cons_zero, List.set_cons_succ]
    refine take_L dOp 5 ?_ (by kernel_rfl) (by kernel_rfl) (by kernel_rfl) (by kernel_rfl) (fun _ _ _ _ _ h => h) (by rfl) hHeld (fun w hSw => ?_) ?_
    rotate_left
    · (try dsimp only at hSw); simp only [nthO]; go_simp; first | done | with_reducible rfl
    simp only [nthO, Act.put, List.setIfInBounds_toArray, List.set_cons_zero, List.set_cons_succ]
    refine take_L dOp 6 ?_ (by kernel_rfl) (by kernel_rfl) (by kernel_rfl) (by kernel_rfl) (fun _ _ _ _ _ h => h) (by rfl) hHeld (fun w hSw => ?_) ?_
    rotate_left
    · (try dsimp only at hSw); simp only [nthO]; go_simp; first | done | with_reducible rfl
    simp only [nthO, Act.put, List.setIfInBounds_toArray, List.set_cons_zero, List.set_cons_succ]
    refine take_L dOp 7 ?_ (by kernel_rfl) (by kernel_rfl) (by kernel_rfl) (by kernel_rfl) (fun _ _ _ _ _ h => h) (by rfl) hHeld (fun w hSw => ?_) ?_
    rotate_left
    · (try dsimp only at hSw); simp only [nthO]; go_simp; first | done | with_reducible rfl
    simp only [nthO, Act.put, List.setIfInBounds_toArray, List.set_cons_zero, List.set_cons_succ]
    refine take_L dOp 8 ?_ (by kernel_rfl) (by kernel_rfl) (by kernel_rfl) (by kernel_rfl) (fun _ _ _ _ _ h => h) (by rfl) hHeld (fun w hSw => ?_) ?_
    rotate_left
    · (try dsimp only at hSw); simp only [nthO]; go_simp; first | done | with_reducible rfl
    simp only [nthO, Act.put, List.setIfInBounds_toArray, List.set_cons_zero, List.set_cons_succ]
    refine take_L dOp 9 ?_ (by kernel_rfl) (by kernel_rfl) (by kernel_rfl) (by kernel_rfl) (fun _ _ _ _ _ h => h) (by rfl) hHeld (fun w hSw => ?_) ?_
    rotate_left
    · (try dsimp only at hSw); simp only [nthO]; go_simp; first | done | with_reducible rfl
    simp only [nthO, Act.put, List.setIfInBounds_toArray, List.set_cons_zero, List.set_cons_succ]
    refine one_L dOp 10 (by kernel_rfl) (by kernel_rfl) (fun K hK => ?_)
    simp only [nthO]
    go_simp
    first
      | (go_at_call 40; refine (cS.out _ ?_).mono ?_; (· first | (with_reducible assumption) | (apply And.right; with_reducible assumption)); rintro r wB ⟨rfl, bB⟩; have mB := HU.out _ bB)
      | go_wp2_with (go_at_call 40; refine (cS.out _ ?_).mono ?_; (· first | (with_reducible assumption) | (apply And.right; with_reducible assumption)); rintro r wB ⟨rfl, bB⟩; have mB := HU.out _ bB)
    try go_wp2_with fail
    refine hK.out _ _ ?_ (fun hHeld2 => ?_)
    · (try dsimp only); exact ⟨by first | (with_reducible assumption) | exact HMD.out, by first | (with_reducible assumption)⟩
    clear hK K hHeld; have hHeld := hHeld2; clear hHeld2
    try simp only [Act.put, List.setIfInBounds_toArray, List.set_cons_zero, List.set_cons_succ]
    refine take_L dOp 11 ?_ (by kernel_rfl) (by kernel_rfl) (by kernel_rfl) (by kernel_rfl) (fun _ _ _ _ _ h => h) (by rfl) hHeld (fun w hSw => ?_) ?_
    rotate_left
    · (try dsimp only at hSw); simp only [nthO]; go_simp; first | done | with_reducible rfl
    simp only [nthO, Act.put, List.setIfInBounds_toArray, List.set_cons_zero, List.set_cons_succ]
    refine take_L dOp 12 ?_ (by kernel_rfl) (by kernel_rfl) (by kernel_rfl) (by kernel_rfl) (fun _ _ _ _ _ h => h) (by rfl) hHeld (fun w hSw => ?_) ?_
    rotate_left
    · (try dsimp only at hSw); simp only [nthO]; go_simp; first | done | with_reducible rfl
    simp only [nthO, Act.put, List.setIfInBounds_toArray, List.set_cons_zero, List.set_cons_succ]
    refine wpAnyH_done (by kernel_rfl) ?_ _
    obtain ⟨ds, dn', df⟩ := HC.out _ bB
    obtain ⟨x1, x2, x3⟩ := HSO.out.1.step bB (by have := HZ.out; have := H5.out; omega) W5.heap.size W5.heap.size (by have := H5.out; omega) pre (zi, ((zk, zt, (z1, z2, z3), zp, zl, zc), zlo, zhi))
    have HX : Hid (KeepsFrom W5.heap.size A (wB.setCell ⟨O, 0, none⟩ (.int .i64 ((zi : Int) + 1))) ∧ KE9 W5.heap.size pre (zi, ((zk, zt, (z1, z2, z3), zp, zl, zc), zlo, zhi)) A (wB.setCell ⟨O, 0, none⟩ (.int .i64 ((zi : Int) + 1))) ∧ So9 w O4 O5 O6 O (.slice (some ⟨bb, off, none⟩) m cb) stop (zi + 1) (wB.setCell ⟨O, 0, none⟩ (.int .i64 ((zi : Int) + 1)))) := ⟨x1, x2, x3⟩
    have no5 : ¬ O5 = O := by have := HZ.out; have := H5.out; omega
    have no6 : ¬ O = O5 := fun h => no5 h.symm
    clear x1 x2 x3 cS HU HC HMD bd mB bB hHeld
    by_cases hq : (zi : Int) + 1 = stop
    · have hqb : ((zi : Int) + 1 == stop) = true := by simpa using hq
      have HQ : Hid ((zi : Int) + 1 = stop) := hq
      clear hq
      gi_wp2
      exact ⟨HX.out.1, rfl, by show So9 _ _ _ _ _ _ _ (pre ++ [_]).length _; rw [List.length_append, HSO.out.2]; exact HX.out.2.2, by show (((pre ++ [_]).length : Nat) : Int) = stop; rw [List.length_append, HSO.out.2]; exact HQ.out⟩
    · have hqb : ((zi : Int) + 1 == stop) = false := by simpa using hq
      clear hq
      gi_wp2
      exact ⟨HX.out.1, HX.out.2.1, by show So9 _ _ _ _ _ _ _ (pre ++ [_]).length _; rw [List.length_append, HSO.out.2]; exact HX.out.2.2⟩
  case stop =>
    rintro D c pre A hD ⟨rfl, hso, hst⟩ hK
    obtain ⟨k, hk⟩ : ∃ k, pre.length = k := ⟨_, rfl⟩
    rw [hk] at hso hst
    have cw : A.cell? ⟨O4, 0, none⟩ = some (.slice pb m cb) := by rw [cell_of_heap hso.a]; rfl
    have cs : A.cell? ⟨O5, 0, none⟩ = some (.int .i64 stop) := by rw [cell_of_heap hso.b]; rfl
    have cn : A.cell? ⟨O, 0, none⟩ = some (.int .i64 k) := by rw [cell_of_heap hso.n]; rfl
    obtain ⟨u6, r6⟩ := hso.c
    have c6 : A.cell? ⟨O6, 0, none⟩ = some u6 := by rw [cell_of_heap r6]; rfl
    have f6 := frozen_of_heap r6 0
    have k1 : ((k : Int) == stop) = true := by simpa using hst
    have hD6 : O6 < D ∧ w.heap.size ≤ O6 ∧ w.heap.size ≤ D := by have := HZ.out; have := H5.out; omega
    have HF : Hid (Below w.heap.size w A ∧ A.heap[O6]? = some (.cells #[u6] 4 (0, 0)) ∧ A.heap[D]? = some (.deferred (some []))) := ⟨hso.below, r6, hK⟩
    have hfin : ∀ tmps : Array Value, tmps[6]? = some (.pointer (some ⟨O6, 0, none⟩)) → bodyPostM Fence.wide 15 Tryz.prog Tryz.f41 (fun r w' => r = .returned (.bool true) ∧ Below w.heap.size w w') Exit.ret { tmps := tmps, defers := [{ target := .collected D, args := #[] }] } (A.setCell ⟨O6, 0, none⟩ (.bool true)) := fun tmps h6 => by
      obtain ⟨k1, k2, k3⟩ := HF.out
      have hK' : (A.setCell ⟨O6, 0, none⟩ (.bool true)).heap[D]? = some (.deferred (some [])) := (Below.heap_setCell _ _ _ _ (show D ≠ O6 by omega)).trans k3
      have q6 : (A.setCell ⟨O6, 0, none⟩ (.bool true)).cell? ⟨O6, 0, none⟩ = some (.bool true) := by
        rw [cell_of_heap (heap_set_at A O6 0 (.bool true) _ _ _ k2)]; rfl
      exact stops_leave _ D O6 _ h6 hK' q6 (by omega) (Tr7.below_put9 (k1.setCell (p := ⟨O6, 0, none⟩) hD6.2.1 _) hK' hD6.2.2)
    have HFF := Hid.mkh hfin
    clear hso hD hK r6 hst hk hfin
    by_cases hkm : k = m
    · have k2 : ((k : Int) == m) = true := by rw [hkm]; exact beq_self_eq_true _
      clear hkm
      gi_wp2
      go_wp2
      exact HFF.out _ rfl
    · have k2 : ((k : Int) == m) = false := by rw [beq_eq_false_iff_ne]; omega
      clear hkm
      gi_wp2
      go_wp2
      exact HFF.out _ rfl
  case done =>
    rintro D xs A hD hS hso hK
    rw [hS, HB.out.1] at hso
    have cw : A.cell? ⟨O4, 0, none⟩ = some (.slice pb m cb) := by rw [cell_of_heap hso.a]; rfl
    have cs : A.cell? ⟨O5, 0, none⟩ = some (.int .i64 stop) := by rw [cell_of_heap hso.b]; rfl
    have cn : A.cell? ⟨O, 0, none⟩ = some (.int .i64 m) := by rw [cell_of_heap hso.n]; rfl
    obtain ⟨u6, r6⟩ := hso.c
    have c6 : A.cell? ⟨O6, 0, none⟩ = some u6 := by rw [cell_of_heap r6]; rfl
    have f6 := frozen_of_heap r6 0
    have k1 : ((m : Int) == m) = true := beq_self_eq_true _
    have hD6 : O6 < D ∧ w.heap.size ≤ O6 ∧ w.heap.size ≤ D := by have := HZ.out; have := H5.out; omega
    have HF : Hid (Below w.heap.size w A ∧ A.heap[O6]? = some (.cells #[u6] 4 (0, 0)) ∧ A.heap[D]? = some (.deferred (some []))) := ⟨hso.below, r6, hK⟩
    clear hso hS hD hK r6
    gi_wp2
    go_wp2
    obtain ⟨k1, k2, k3⟩ := HF.out
    have hK' : (A.setCell ⟨O6, 0, none⟩ (.bool true)).heap[D]? = some (.deferred (some [])) := (Below.heap_setCell _ _ _ _ (show D ≠ O6 by omega)).trans k3
    have q6 : (A.setCell ⟨O6, 0, none⟩ (.bool true)).cell? ⟨O6, 0, none⟩ = some (.bool true) := by
      rw [cell_of_heap (heap_set_at A O6 0 (.bool true) _ _ _ k2)]; rfl
    refine stops_leave _ D O6 _ rfl hK' q6 (by omega) ?_
    exact Tr7.below_put9 (k1.setCell (p := ⟨O6, 0, none⟩) hD6.2.1 _) hK' hD6.2.2
end Go.Proofs.YthfpmhnnjjikcaaGreatDoor
