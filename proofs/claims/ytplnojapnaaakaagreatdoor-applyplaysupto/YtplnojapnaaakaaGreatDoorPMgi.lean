/- The errors' numbers: what vellumnum.list and vellumnum.Num answer where all nineteen sentinels lie as laid. vellumspare.Spoil: writes over operations and their lists, and nothing else. vellumhand.OverOps: operations written over, their lists too, and grown. What writing over a list leaves of deltas; build.Same. apply.Changes. The deltas of vellumlaw10.lives. vellumlaw10.lives. vellumref04.SameOps of any two lists. A set behind a patch, key by key: how the joined list begins. What vellumref10.Patched answers of a set and a patch. Lists of inserts, one put behind the other; rows of operations whose lists are the call's own. What vellumref04.Cells answers of embeds, and vellumref04.Newlines. Cells one by one, as plain data: their error, the operation that inserts one. cells.Like, cells.Same; vellumref09.Like, vellumref09.Same. vellumlaw08: fixed answers true. The document's answer: cells of inserts, List. The document's Cells of layer 10. What vellumref10.Done answers: the cells behind a delta, with the places that they had. cells.Of of any list of cells. The document's op, Doc, Of, SameList of layer 9. The document's Of and joined of layer 10. The document's joined of layer 10: an operation put behind others. -/
import Derived.Test.YtplnojapnaaakaaGreatDoorPEr
import Derived.Test.YtplnojapnaaakaaGreatDoorPSpo
import Derived.Test.YtplnojapnaaakaaGreatDoorPMgd
import Derived.Deep.RegionHeld3
import Derived.Deep.DeepCutAuto
import Derived.Test.YtplnojapnaaakaaGreatDoorPMge
import Derived.Test.YtplnojapnaaakaaGreatDoorPMgf
import Derived.Test.YtplnojapnaaakaaGreatDoorPMgg
import Derived.Test.YtplnojapnaaakaaGreatDoorPMgh
import Derived.Test.YtplnojapnaaakaaGreatDoorPPc
import Derived.Test.YtplnojapnaaakaaGreatDoorPMgc
import Derived.Test.YtplnojapnaaakaaGreatDoorPMga
import Derived.Laws.Runes
import Derived.Deep.RegionWith
import Derived.BigQuiet
import Derived.BigRegion
import Derived.Test.YtplnojapnaaakaaGreatDoorPCc
import Derived.Test.YtplnojapnaaakaaGreatDoorPQb
import Derived.Test.YtplnojapnaaakaaGreatDoorPOw
import Derived.Test.YtplnojapnaaakaaGreatDoorPSw

/- The errors' numbers: what vellumnum.list and vellumnum.Num answer where all nineteen sentinels lie as laid. -/
namespace Go.Proofs.YtplnojapnaaakaaGreatDoor
open Go Go.RowKit
set_option linter.unusedVariables false
/-- All nineteen. -/
def all19 : List Nat := List.range 19
abbrev Sent (a : Nat → Addr) (w : World) : Prop := Er all19 a w
theorem in19 {i : Nat} (h : i < 19) : i ∈ all19 := List.mem_range.2 h
def errA (a : Nat → Addr) : Array Value := #[errV a 0, errV a 1, errV a 2, errV a 3, errV a 4, errV a 5, errV a 6, errV a 7, errV a 8, errV a 9, errV a 10, errV a 11, errV a 12, errV a 13, errV a 14, errV a 15, errV a 16, errV a 17, errV a 18]

theorem wl_build (a : Nat → Addr) {ops : Array Oper} {rest : List Oper} {o : Oper} {A : Act} {w : World} {Q : Exit → Act → World → Prop} (hg : o.guard = none) (parts : Array (Nat × Operand)) (ho : o.op = .build 112 parts)
    (hp : (parts.map fun (i, x) => (i, A.eval x)) = #[(0, errV a 0), (1, errV a 1), (2, errV a 2), (3, errV a 3), (4, errV a 4), (5, errV a 5), (6, errV a 6), (7, errV a 7), (8, errV a 8), (9, errV a 9), (10, errV a 10), (11, errV a 11), (12, errV a 12), (13, errV a 13), (14, errV a 14), (15, errV a 15), (16, errV a 16), (17, errV a 17), (18, errV a 18)])
    (h : wpList Tryz.prog ops Q rest (A.put o.dst (.agg (errA a))) w) : wpList Tryz.prog ops Q (o :: rest) A w := by
  have hb : Tryz.prog.built 112 (parts.map fun (i, x) => (i, A.eval x)).toList = some (errA a) := by rw [hp]; kernel_rfl
  refine wpList_build hg 112 parts ho (by rw [hb]; rfl) ?_
  rw [hb]; exact h

theorem alloc_setRow (w : World) (old cs : Array Value) (t : TypeId) : (w.alloc (.cells old t)).setRow w.heap.size cs = w.alloc (.cells cs t) := by
  have : ((w.heap.push (.cells old t)).modify w.heap.size fun | .cells _ t f => .cells cs t f | o => o) = w.heap.push (.cells cs t) := by
    apply Array.ext
    · simp
    · intro i h1 h2
      rw [Array.getElem_modify]
      by_cases hi : w.heap.size = i
      · subst hi; simp
      · rw [if_neg hi]
        have : i < w.heap.size := by simp at h2; omega
        simp [Array.getElem_push, this]
  show { w with heap := (w.heap.push (.cells old t)).modify w.heap.size _ } = { w with heap := w.heap.push _ }
  rw [← this]; rfl

theorem wl_store (a : Nat → Addr) {ops : Array Oper} {rest : List Oper} {o : Oper} {A : Act} {w : World} {Q : Exit → Act → World → Prop} {old : Array Value} (hg : o.guard = none) (x y : Operand) (ho : o.op = .store 112 x y)
    (hx : A.eval x = .pointer (some ⟨w.heap.size, 0, none⟩)) (hy : A.eval y = .agg (errA a)) (hold : old.size = 19)
    (h : wpList Tryz.prog ops Q rest (A.put o.dst undef) (w.alloc (.cells (errA a) 112))) : wpList Tryz.prog ops Q (o :: rest) A (w.alloc (.cells old 112)) := by
  refine wpList_store_row hg 112 x y ho w.heap.size (errA a) hx hy 112 old (by show (w.heap.push _)[w.heap.size]? = _; simp) (by kernel_rfl) (by rw [hold]; rfl) (by kernel_rfl) ?_
  rw [alloc_setRow]; exact h

set_option maxHeartbeats 400000 in
set_option maxRecDepth 100000 in
theorem list_any (a : Nat → Addr) (w : World) (h : ∀ i, i < 19 → w.cell? ⟨[2, 3, 4, 5, 6, 7, 8, 9, 10, 11, 12, 1, 13, 14, 15, 16, 17, 0, 18].getD i 0, 0, none⟩ = some (errV a i)) :
    Calls Tryz.prog 56 #[] w fun e w' => e = .returned (.agg (errA a)) ∧ Below w.heap.size w w' := by
  have h0 : w.cell? ⟨2, 0, none⟩ = some (errV a 0) := h 0 (by omega)
  have h1 : w.cell? ⟨3, 0, none⟩ = some (errV a 1) := h 1 (by omega)
  have h2 : w.cell? ⟨4, 0, none⟩ = some (errV a 2) := h 2 (by omega)
  have h3 : w.cell? ⟨5, 0, none⟩ = some (errV a 3) := h 3 (by omega)
  have h4 : w.cell? ⟨6, 0, none⟩ = some (errV a 4) := h 4 (by omega)
  have h5 : w.cell? ⟨7, 0, none⟩ = some (errV a 5) := h 5 (by omega)
  have h6 : w.cell? ⟨8, 0, none⟩ = some (errV a 6) := h 6 (by omega)
  have h7 : w.cell? ⟨9, 0, none⟩ = some (errV a 7) := h 7 (by omega)
  have h8 : w.cell? ⟨10, 0, none⟩ = some (errV a 8) := h 8 (by omega)
  have h9 : w.cell? ⟨11, 0, none⟩ = some (errV a 9) := h 9 (by omega)
  have h10 : w.cell? ⟨12, 0, none⟩ = some (errV a 10) := h 10 (by omega)
  have h11 : w.cell? ⟨1, 0, none⟩ = some (errV a 11) := h 11 (by omega)
  have h12 : w.cell? ⟨13, 0, none⟩ = some (errV a 12) := h 12 (by omega)
  have h13 : w.cell? ⟨14, 0, none⟩ = some (errV a 13) := h 13 (by omega)
  have h14 : w.cell? ⟨15, 0, none⟩ = some (errV a 14) := h 14 (by omega)
  have h15 : w.cell? ⟨16, 0, none⟩ = some (errV a 15) := h 15 (by omega)
  have h16 : w.cell? ⟨17, 0, none⟩ = some (errV a 16) := h 16 (by omega)
  have h17 : w.cell? ⟨0, 0, none⟩ = some (errV a 17) := h 17 (by omega)
  have h18 : w.cell? ⟨18, 0, none⟩ = some (errV a 18) := h 18 (by omega)
  have z0 : 2 < w.heap.size := lt_of_cell h0
  have z1 : 3 < w.heap.size := lt_of_cell h1
  have z2 : 4 < w.heap.size := lt_of_cell h2
  have z3 : 5 < w.heap.size := lt_of_cell h3
  have z4 : 6 < w.heap.size := lt_of_cell h4
  have z5 : 7 < w.heap.size := lt_of_cell h5
  have z6 : 8 < w.heap.size := lt_of_cell h6
  have z7 : 9 < w.heap.size := lt_of_cell h7
  have z8 : 10 < w.heap.size := lt_of_cell h8
  have z9 : 11 < w.heap.size := lt_of_cell h9
  have z10 : 12 < w.heap.size := lt_of_cell h10
  have z11 : 1 < w.heap.size := lt_of_cell h11
  have z12 : 13 < w.heap.size := lt_of_cell h12
  have z13 : 14 < w.heap.size := lt_of_cell h13
  have z14 : 15 < w.heap.size := lt_of_cell h14
  have z15 : 16 < w.heap.size := lt_of_cell h15
  have z16 : 17 < w.heap.size := lt_of_cell h16
  have z17 : 0 < w.heap.size := lt_of_cell h17
  have z18 : 18 < w.heap.size := lt_of_cell h18
  clear h
  go_enter Tryz.func56, Tryz.ntmps56
  go_wp2_with (first | (refine wl_build a rfl _ rfl (by kernel_rfl) ?_) | (refine wl_store a rfl _ _ rfl (by kernel_rfl) (by kernel_rfl) (by kernel_rfl) ?_))
  have hl := run_loadVar_new (P := Tryz.prog) w 112 (errA a) 19 40 Tryz.underlying112 (by kernel_rfl)
  refine bodyPost_ret (v := .agg (errA a)) ?_ rfl ⟨rfl, (Below.refl _ _).alloc (Nat.le_refl _) _⟩
  simp only [results, Tryz.results56]
  simp [asAddr, Act.put, hl]

theorem errA_get (a : Nat → Addr) (k : Nat) (hk : k < 19) : (errA a)[k]? = some (errV a k) := by
  have e : errA a = ((List.range 19).map (errV a)).toArray := rfl
  rw [e]
  simp [hk]

theorem index_arr {A : Array Value} {k : Nat} {v : Value} (hk : k < 19) (hA : A[k]? = some v) (w : World) : (Instr.index 112 (.agg A) (.int .i64 k)).run Tryz.prog w = .ok v w := by
  obtain ⟨i, hi, hs⟩ := Option.map_eq_some_iff.1 (show (Tryz.prog.info? 40).map (·.size) = some 1 by kernel_rfl)
  have hk2 : (0 : Int) ≤ k ∧ (k : Int) < 19 := by omega
  simp [Instr.index, run_underlying Tryz.underlying112, asIntOf, hk2, sizeOf, typeInfo, hi, hs, part, hA]
  omega

theorem num_nil (w : World) : Calls Tryz.prog 14 #[.nilIface] w fun e w' => e = .returned (.int .i64 0) ∧ w' = w := by
  go_enter Tryz.func14, Tryz.ntmps14
  go_wp2
  go_ret
  exact ⟨rfl, rfl⟩

set_option maxHeartbeats 400000 in
theorem num_err {a : Nat → Addr} {w : World} (h : Sent a w) (n : Nat) (hn : n < 19) :
    Calls Tryz.prog 14 #[errV a n] w fun e w' => e = .returned (.int .i64 (n + 1)) ∧ Below w.heap.size w w' := by
  have hcell : ∀ i, i < 19 → w.cell? ⟨[2, 3, 4, 5, 6, 7, 8, 9, 10, 11, 12, 1, 13, 14, 15, 16, 17, 0, 18].getD i 0, 0, none⟩ = some (errV a i) := fun i hi => h.cell i (in19 hi)
  have hnil := eql_nil a n
  have hsame := eql_same a n
  obtain ⟨A, hA⟩ : ∃ A, A = errA a := ⟨_, rfl⟩
  have hAs : A.size = 19 := by rw [hA]; rfl
  have hAg : ∀ k, k < 19 → A[k]? = some (errV a k) := by rw [hA]; exact errA_get a
  go_enter Tryz.func14, Tryz.ntmps14
  go_wp2_with (go_at_call 56; refine (list_any a _ hcell).mono ?_; rintro e w1 ⟨rfl, hb⟩; have h1 := h.below hb; clear hcell h hnil; rw [← hA]; clear hA)
  go_loop [8] (fun i => ∃ k : Nat, k ≤ n ∧ i = .int .i64 k) (fun i => 19 - (intOf i).toNat)
  case atStart => exact ⟨0, Nat.zero_le _, rfl⟩
  case round =>
    obtain ⟨k, hk, rfl⟩ := hrel
    have hAk := hAg k (by omega)
    have hk9 : (k : Int) < 19 := by omega
    have hix := index_arr (A := A) (by omega : k < 19) hAk
    clear hAg hAk
    by_cases hlt : k < n
    · have he := eql_other h1 n k (in19 hn) (in19 (by omega)) (by omega)
      clear h1 hsame
      go_wp2
      go_round
      case rel => exact ⟨k + 1, by omega, by go_num⟩
      case measure => simp [intOf]; omega
    · obtain rfl : k = n := by omega
      clear h1
      go_wp2
      go_ret
      exact ⟨rfl, hb⟩

theorem num_of {a : Nat → Addr} {w : World} (h : Sent a w) (e : Nat) (he : e ≤ 19) :
    Calls Tryz.prog 14 #[errOf a e] w fun r w' => r = .returned (.int .i64 e) ∧ Below w.heap.size w w' := by
  cases e with
  | zero => exact (num_nil w).mono fun r w' ⟨h1, h2⟩ => ⟨h1, by rw [h2]; exact Below.refl _ _⟩
  | succ n => rw [errOf_succ]; exact num_err h n (by omega)
end Go.Proofs.YtplnojapnaaakaaGreatDoor

/- vellumspare.Spoil: writes over operations and their lists, and nothing else. -/
namespace Go.Proofs.YtplnojapnaaakaaGreatDoor
open Go Go.RowKit Go.Lib
set_option linter.unusedVariables false
theorem set7_far (W : World) {g o i : Nat} (hi : o + 7 ≤ i) (u0 u1 u2 u3 u4 u5 u6 : Value) :
    (((((((W.setCell ⟨g, o, none⟩ u0).setCell ⟨g, o + 1, none⟩ u1).setCell ⟨g, o + 2, none⟩ u2).setCell ⟨g, o + 3, none⟩ u3).setCell ⟨g, o + 4, none⟩ u4).setCell ⟨g, o + 5, none⟩ u5).setCell ⟨g, o + 6, none⟩ u6).cell? ⟨g, i, none⟩ = W.cell? ⟨g, i, none⟩ := by
  have h : ∀ (W : World) (j : Nat) (v : Value), j < i → (W.setCell ⟨g, j, none⟩ v).cell? ⟨g, i, none⟩ = W.cell? ⟨g, i, none⟩ := fun W j v hj => World.cell?_setCell_other _ _ _ _ (fun e => by cases e; omega)
  rw [h _ _ _ (by omega), h _ _ _ (by omega), h _ _ _ (by omega), h _ _ _ (by omega), h _ _ _ (by omega), h _ _ _ (by omega), h _ _ _ (by omega)]
theorem OpAt.far (W : World) {g o j : Nat} {d : OV} (h : OpAt W g j d) (hi : o + 7 ≤ j) (u0 u1 u2 u3 u4 u5 u6 : Value) :
    OpAt (((((((W.setCell ⟨g, o, none⟩ u0).setCell ⟨g, o + 1, none⟩ u1).setCell ⟨g, o + 2, none⟩ u2).setCell ⟨g, o + 3, none⟩ u3).setCell ⟨g, o + 4, none⟩ u4).setCell ⟨g, o + 5, none⟩ u5).setCell ⟨g, o + 6, none⟩ u6) g j d :=
  ⟨(set7_far W (by omega) ..).trans h.c0, (set7_far W (by omega) ..).trans h.c1, (set7_far W (by omega) ..).trans h.c2, (set7_far W (by omega) ..).trans h.c3, (set7_far W (by omega) ..).trans h.c4, (set7_far W (by omega) ..).trans h.c5, (set7_far W (by omega) ..).trans h.c6⟩

end Go.Proofs.YtplnojapnaaakaaGreatDoor

/- vellumhand.OverOps: operations written over, their lists too, and grown. -/
namespace Go.Proofs.YtplnojapnaaakaaGreatDoor
open Go Go.RowKit Go.Lib
set_option linter.unusedVariables false
theorem OpAt.same_block {w w' : World} {g j : Nat} {d : OV} (h : OpAt w g j d) (hb : w'.heap[g]? = w.heap[g]?) : OpAt w' g j d := by
  have e : ∀ i, w'.cell? ⟨g, i, none⟩ = w.cell? ⟨g, i, none⟩ := fun i => World.cell?_of_block (a := ⟨g, i, none⟩) hb
  exact ⟨(e _).trans h.c0, (e _).trans h.c1, (e _).trans h.c2, (e _).trans h.c3, (e _).trans h.c4, (e _).trans h.c5, (e _).trans h.c6⟩
end Go.Proofs.YtplnojapnaaakaaGreatDoor

/- What writing over a list leaves of deltas; build.Same. -/
namespace Go.Proofs.YtplnojapnaaakaaGreatDoor
open Go Go.RowKit Go.Lib
set_option linter.unusedVariables false
theorem DelV.out {w w' : World} {lo hi B1 B2 : Nat} {v : Value} {E : List Op5} (h : DelV w B1 B2 v E) (o : Out lo hi w w') (h1 : hi ≤ B1) (h2 : hi ≤ B2) : DelV w' B1 B2 v E := by
  obtain ⟨q, pv, PL, a1, a2, a3, a4, a5⟩ := h
  refine ⟨q, pv, PL, a1, a2, (o.block q (Array.getElem?_eq_some_iff.1 a3).1 (Or.inr (by omega))).trans a3, o.own h1 a4, ?_⟩
  exact All2.imp (fun x e h => by obtain ⟨s, k1, k2⟩ := h; exact ⟨s, k1, o.own h2 k2⟩) a5
theorem FarO.out {w w' : World} {lo hi B : Nat} {v : Value} {D : List OV} (h : FarO w B v D) (o : Out lo hi w w') (h1 : hi ≤ B) : FarO w' B v D := by
  obtain ⟨p, cap, a1, a2, a3, a4⟩ := h
  exact ⟨p, cap, a1, a2, a3, fun j d hd => by
    obtain ⟨b, off, k1, k0, k2⟩ := a4 j d hd
    exact ⟨b, off, k1, k0, k2.same_block (o.block b (lt_of_cell k2.c0) (Or.inr (by omega)))⟩⟩

set_option maxHeartbeats 1000000 in
theorem buildSame_any {B1 B2 C1 C2 : Nat} (d1 d2 : Value) (E F : List Op5) (w : World) (h : DelV w B1 B2 d1 E) (h' : DelV w C1 C2 d2 F) (gE : ∀ o ∈ E, opE o = 0) (gF : ∀ o ∈ F, opE o = 0) (hE : OkR E) (hF : OkR F) :
    Calls Tryz.prog 84 #[d1, d2] w fun r w' => r = .returned (.bool (decide (E = F))) ∧ Below w.heap.size w w' := by
  have c1 := ops_any d1 E w h gE (fun o ho => by have := hE.n o ho; omega) (by have := hE.len; omega)
  have c2 : Hid (∀ W, Below w.heap.size w W → Calls Tryz.prog 26 #[d2] W fun r w' => ∃ v', r = .returned v' ∧ CoO w' W.heap.size v' F ∧ Below W.heap.size W w') := fun W hW => ops_any d2 F W (h'.below hW) gF (fun o ho => by have := hF.n o ho; omega) (by have := hF.len; omega)
  have c3 : Hid (∀ W v v', ReO W v E → ReO W v' F → Calls Tryz.prog 120 #[v, v'] W fun r w' => r = .returned (.bool (decide (E = F))) ∧ Below W.heap.size W w') := fun W v v' a b => sameL_any v v' E F W a b hE.len hF.len hE.n hF.n
  go_enter Tryz.func84, Tryz.ntmps84
  go_wp2_with fail
  refine c1.mono ?_; rintro r w1 ⟨v1, rfl, k1, hb1⟩
  have cc := c2.out w1 hb1
  have K1 := Hid.mk' k1.re
  clear c1 c2 k1
  go_wp2_with fail
  refine cc.mono ?_; rintro r w2 ⟨v2, rfl, k2, hb2⟩
  have b2 := hb1.trans (hb2.mono hb1.size)
  have cd := c3.out w2 v1 v2 (K1.out.below hb2) k2.re
  clear cc c3 K1 k2 hb1 hb2
  go_wp2_with fail
  refine cd.mono ?_; rintro r w3 ⟨rfl, hb3⟩
  have b3 := b2.trans (hb3.mono b2.size)
  clear cd b2 hb3
  go_wp2
  go_ret
  exact ⟨rfl, b3⟩
end Go.Proofs.YtplnojapnaaakaaGreatDoor

/- apply.Changes. -/
namespace Go.Proofs.YtplnojapnaaakaaGreatDoor
open Go Go.RowKit Go.Lib Go.Shelf
set_option linter.unusedVariables false
attribute [local go_sem] Oper.semAt_some
theorem end10 {E F : List Op5} {N T K : Nat} (h : Two10 E F N T K) : ∃ k, Run7 E F k ∧ (it7 E F k).1 = [] ∧ (it7 E F k).2 = [] := by
  refine Classical.byContradiction fun hno => ?_
  have hall : ∀ k, Run7 E F k := by
    intro k
    induction k with
    | zero => intro j hj; omega
    | succ k ih =>
      intro j hj
      rcases Nat.lt_or_ge j k with h | h
      · exact ih j h
      · obtain rfl : j = k := by omega
        exact fun h0 => hno ⟨_, ih, h0.1, h0.2⟩
  have ht := h.t
  have hn := h.n
  have := run_len h.e h.f (by omega) (by omega) (E.length + F.length + 1) (hall _)
  omega
/-- The document behind it may be read. -/
theorem behind10 {E F : List Op5} {N T K : Nat} (h : Two10 E F N T K) (hl : E.length + F.length ≤ 2097152) (hd : DocL E) {xs : List C5} (hx : edit (units F) (cellsL E) = some xs) (hs : (xs.length : Int) ≤ 1099511627776) : (∀ o ∈ docOf xs, opE o = 0) ∧ OkR (docOf xs) := by
  obtain ⟨k, hr, h0⟩ := end10 h
  have ht := h.t
  have hn := h.n
  have ok := gat_okE h.e h.f h.t h.n h.k hd hx hs hr
  have he := gat_end h.e h.f (by omega) (by omega) hd hx hr h0
  obtain ⟨k1, _, k3⟩ := canon_ok ok
  rw [he] at k1 k3
  have hg := gat_le E F k
  have hk := run_len h.e h.f (by omega) (by omega) k hr
  exact ⟨k1.good, OkE.okR k1 (by omega)⟩
set_option maxHeartbeats 2000000 in
theorem changes10_any {I : List Nat} {a : Nat → Addr} {B1 B2 C1 C2 N T K : Nat} (v u : Value) (E F : List Op5) (w : World) (hI : ∀ i ∈ IxO, i ∈ I) (h11 : 11 ∈ I) (hS : Std I a w) (hE : DlE w B1 B2 v E) (hF : DlE w C1 C2 u F) (h2 : Two10 E F N T K) (hl : E.length + F.length ≤ 2097152) :
    Calls Tryz.prog 36 #[v, u] w fun r w' => ∃ bv, r = .returned (.tuple #[bv, errOf a (chkE10 E F)]) ∧ (chkE10 E F ≠ 0 → bv = .bool false) ∧ (∀ xs, chkE10 E F = 0 → edit (units F) (cellsL E) = some xs → bv = .bool (!decide (E = docOf xs))) ∧ Below w.heap.size w w' := by
  have cA := apply10_any v u E F w hI h11 hS hE hF h2
  have hs1 := hE.sums
  have hs2 := hF.sums
  have hf1 := hE.fits
  unfold Fits8 at hf1
  have HX : Hid (chkE10 E F = 0 → ∃ xs, edit (units F) (cellsL E) = some xs ∧ (∀ o ∈ docOf xs, opE o = 0) ∧ OkR (docOf xs)) := fun h0 => by
    obtain ⟨x1, hd1, xs, hxs, x2, x3, x4⟩ := chk10_edit hE.g hF.g h0
    obtain ⟨g1, g2⟩ := behind10 h2 hl hd1 hxs (by omega)
    exact ⟨xs, hxs, g1, g2⟩
  have HD : Hid (∀ W, Below w.heap.size w W → DelV W B1 B2 v E) := fun W b => hE.d.below b
  have HE : Hid ((∀ o ∈ E, opE o = 0) ∧ OkR E) := ⟨hE.g, fun o ho => (hE.fit o ho).n, by omega⟩
  clear hs1 hs2 hf1
  obtain ⟨q1, rfl⟩ : ∃ q, v = .pointer (some ⟨q, 0, none⟩) := by obtain ⟨q, _, _, e, _⟩ := hE.d; exact ⟨q, e⟩
  obtain ⟨q2, rfl⟩ : ∃ q, u = .pointer (some ⟨q, 0, none⟩) := by obtain ⟨q, _, _, e, _⟩ := hF.d; exact ⟨q, e⟩
  obtain ⟨er, her⟩ : ∃ er, chkE10 E F = er := ⟨_, rfl⟩
  rw [her] at cA HX ⊢
  clear hI h11 hS hE hF h2 her hl
  go_enter Tryz.func36, Tryz.ntmps36
  go_wp2_with fail
  refine cA.mono ?_; rintro r w1 ⟨dv, rfl, hz, hd, hb1⟩
  clear cA
  cases er with
  | succ e =>
    obtain ⟨t0, y0, hv0⟩ : ∃ t y, errOf a (e + 1) = .iface t y := ⟨_, _, rfl⟩
    have HV : Hid (errOf a (e + 1) = .iface t0 y0) := hv0
    obtain rfl := hz (by omega)
    rw [hv0]
    clear hv0 hd hz
    go_wp2
    go_ret2
    exact ⟨.bool false, by rw [HV.out]; rfl, fun _ => rfl, fun _ h => (by cases h), hb1⟩
  | zero =>
    obtain ⟨xs, x1, x2, x3⟩ := HX.out rfl
    have hd' := hd xs rfl x1
    rw [show errOf a 0 = .nilIface from rfl]
    obtain ⟨q, rfl⟩ : ∃ q, dv = .pointer (some ⟨q, 0, none⟩) := by obtain ⟨q, _, _, e, _⟩ := hd'; exact ⟨q, e⟩
    have cS := buildSame_any _ _ E (docOf xs) w1 (HD.out w1 hb1) hd' HE.out.1 x2 HE.out.2 x3
    obtain ⟨sb, hsb⟩ : ∃ b, decide (E = docOf xs) = b := ⟨_, rfl⟩
    rw [hsb] at cS
    have HB := Hid.mk' (And.intro hsb x1)
    clear hd hz hd' x1 x2 x3 hsb
    go_wp2_with fail
    refine cS.mono ?_; rintro r w2 ⟨rfl, hb2⟩
    clear cS
    go_wp2
    go_ret2
    refine ⟨.bool (!sb), rfl, fun ys hy => ?_, hb1.trans (hb2.mono hb1.size)⟩
    rw [HB.out.2] at hy
    cases hy
    rw [HB.out.1]
end Go.Proofs.YtplnojapnaaakaaGreatDoor

/- The deltas of vellumlaw10.lives. -/
namespace Go.Proofs.YtplnojapnaaakaaGreatDoor
open Go Go.RowKit Go.Lib Go.Shelf
set_option linter.unusedVariables false
def lvA : List Op5 := [txtO ⟨#[97, 98, 99]⟩]
def lvB : List Op5 := [⟨3, ⟨#[]⟩, z0, 1, []⟩, txtO ⟨#[88]⟩, delO 1]
def lvC : List Op5 := [txtO ⟨#[97, 88, 99]⟩]
theorem lvA_ok : ofE 0 0 lvA = (0, 0) := by kernel_rfl
theorem lvB_ok : ofE 0 0 lvB = (0, 0) := by kernel_rfl
theorem lvA_canon : canonL lvA = lvA := by kernel_rfl
theorem lvB_canon : canonL lvB = lvB := by kernel_rfl
theorem lv_chk : chkE10 lvA lvB = 0 := by kernel_rfl
theorem lv_chk2 : decide (chkE10 lvB lvA = 0) = false := by kernel_rfl
theorem lv_edit : edit (units lvB) (cellsL lvA) = some (cellsL lvC) := by kernel_rfl
theorem lv_doc : docOf (cellsL lvC) = lvC := by kernel_rfl
theorem lv_kep : kepI ((doneL (cellsL lvA) (units lvB)).map Prod.snd) 0 = [(0, 0), (2, 2)] := by kernel_rfl
theorem lv_ne : lvA ≠ lvC := fun h => by
  have := congrArg (fun E : List Op5 => E.map fun o => o.t.data.toList) h
  revert this
  decide
theorem lvA_nil : ∀ o ∈ lvA, o.A = [] := by
  intro o ho
  simp only [lvA, List.mem_cons, List.not_mem_nil, or_false] at ho
  rcases ho with rfl; rfl
theorem lvB_nil : ∀ o ∈ lvB, o.A = [] := by
  intro o ho
  simp only [lvB, List.mem_cons, List.not_mem_nil, or_false] at ho
  rcases ho with rfl | rfl | rfl <;> rfl
theorem lvC_nil : ∀ o ∈ lvC, o.A = [] := by
  intro o ho
  simp only [lvC, List.mem_cons, List.not_mem_nil, or_false] at ho
  rcases ho with rfl; rfl
theorem lvA_good : ∀ o ∈ lvA, opE o = 0 := by
  intro o ho
  simp only [lvA, List.mem_cons, List.not_mem_nil, or_false] at ho
  rcases ho with rfl; kernel_rfl
theorem lvB_good : ∀ o ∈ lvB, opE o = 0 := by
  intro o ho
  simp only [lvB, List.mem_cons, List.not_mem_nil, or_false] at ho
  rcases ho with rfl | rfl | rfl <;> kernel_rfl
theorem lvC_good : ∀ o ∈ lvC, opE o = 0 := by
  intro o ho
  simp only [lvC, List.mem_cons, List.not_mem_nil, or_false] at ho
  rcases ho with rfl; kernel_rfl
theorem lvA_fit : FitL lvA := by
  intro o ho
  refine fit_nil ?_ ?_ (lvA_nil o ho)
  all_goals
    simp only [lvA, List.mem_cons, List.not_mem_nil, or_false] at ho
    rcases ho with rfl; decide
theorem lvB_fit : FitL lvB := by
  intro o ho
  refine fit_nil ?_ ?_ (lvB_nil o ho)
  all_goals
    simp only [lvB, List.mem_cons, List.not_mem_nil, or_false] at ho
    rcases ho with rfl | rfl | rfl <;> decide
theorem lvA_rst : Rst lvA 100 100 100 := ⟨lvA_good, fun o ho => (lvA_fit o ho).fitA, by decide, fun o ho => by rw [lvA_nil o ho]; simp, by decide, by kernel_rfl, by kernel_rfl, by decide, by decide⟩
theorem lvB_rst : Rst lvB 100 100 100 := ⟨lvB_good, fun o ho => (lvB_fit o ho).fitA, by decide, fun o ho => by rw [lvB_nil o ho]; simp, by decide, by kernel_rfl, by kernel_rfl, by decide, by decide⟩
theorem lv_two : Two10 lvA lvB 100 100 100 := ⟨lvA_rst, lvB_rst, by omega, by omega, by omega⟩
theorem lvA_dle {W : World} {B1 B2 : Nat} {v : Value} (h : DelV W B1 B2 v lvA) : DlE W B1 B2 v lvA := ⟨h, lvA_good, fun o ho => (lvA_fit o ho).fitA, by decide, by decide, ⟨by decide, by decide⟩⟩
theorem lvB_dle {W : World} {B1 B2 : Nat} {v : Value} (h : DelV W B1 B2 v lvB) : DlE W B1 B2 v lvB := ⟨h, lvB_good, fun o ho => (lvB_fit o ho).fitA, by decide, by decide, ⟨by decide, by decide⟩⟩
theorem lv_own {w : World} {B : Nat} {v : Value} (h : OwnZ w B v (([((0 : Int), (0 : Int)), (2, 2)] : List (Int × Int)).map fun x => .int .i64 x.2)) : ∃ g c, v = .slice (some ⟨g, 0, none⟩) 2 c ∧ w.cell? ⟨g, 1, none⟩ = some (.int .i64 2) := by
  obtain ⟨_, ⟨_, h0⟩ | ⟨g, cap, cur, rfl, _, hg, hn, _, hs, ht⟩⟩ := h
  · cases h0
  · refine ⟨g, cap, rfl, ?_⟩
    rw [cell_of_heap hg]
    have hn2 : 2 ≤ cap := hn
    have h1 : (cur.toList.take (2 * 1))[1]? = some (.int .i64 2) := by
      have : cur.toList.take (2 * 1) = [.int .i64 0, .int .i64 2] := ht
      rw [this]; rfl
    rw [List.getElem?_take_of_lt (by omega)] at h1
    simpa using h1
theorem lv_own1 {w : World} {B : Nat} {v : Value} (h : OwnZ w B v (([((0 : Int), (0 : Int)), (2, 2)] : List (Int × Int)).map fun x => .int .i64 x.1)) : ∃ p c, v = .slice p 2 c := by
  obtain ⟨_, ⟨_, h0⟩ | ⟨g, cap, cur, rfl, _, hg, hn, _, hs, ht⟩⟩ := h
  · cases h0
  · exact ⟨_, _, rfl⟩
end Go.Proofs.YtplnojapnaaakaaGreatDoor

/- vellumlaw10.lives. -/
namespace Go.Proofs.YtplnojapnaaakaaGreatDoor
open Go Go.RowKit Go.Lib Go.Shelf
set_option linter.unusedVariables false
attribute [local go_sem] Oper.semAt_some
set_option maxHeartbeats 4000000 in
set_option maxRecDepth 100000 in
theorem lives10_any {I : List Nat} {a : Nat → Addr} (w : World) (hI : ∀ i ∈ IxO, i ∈ I) (h11 : 11 ∈ I) (hS : Std I a w) :
    Calls Tryz.prog 31 #[] w fun r w' => r = .returned (.bool true) ∧ Below w.heap.size w w' := by
  have CA : Hid (∀ W b, Below w.heap.size w W → W.heap[b]? = some (.cells (cellsO (lvA.map ovN)).toArray 33 (0, 0)) → Calls Tryz.prog 37 #[.slice (some ⟨b, 0, none⟩) 1 1] W fun r w' => ∃ q, r = .returned (.tuple #[.pointer (some ⟨q, 0, none⟩), .int .i64 0, .nilIface]) ∧ DelV w' W.heap.size W.heap.size (.pointer (some ⟨q, 0, none⟩)) lvA ∧ Below W.heap.size W w') := fun W b hW hb => by
    refine (buildOf_any _ lvA W hI (hS.below hW) (re_blk hb lvA_nil) lvA_fit (by decide) (by decide)).mono ?_
    rintro r w' ⟨dv, h1, h2, _, h4⟩
    rw [lvA_ok] at h1 h2
    rw [lvA_canon] at h2
    have h5 := h2 rfl
    obtain ⟨q, pv, PL, rfl, _⟩ := id h5
    exact ⟨q, h1, h5, h4⟩
  have CB : Hid (∀ W b, Below w.heap.size w W → W.heap[b]? = some (.cells (cellsO (lvB.map ovN)).toArray 33 (0, 0)) → Calls Tryz.prog 37 #[.slice (some ⟨b, 0, none⟩) 3 3] W fun r w' => ∃ q, r = .returned (.tuple #[.pointer (some ⟨q, 0, none⟩), .int .i64 0, .nilIface]) ∧ DelV w' W.heap.size W.heap.size (.pointer (some ⟨q, 0, none⟩)) lvB ∧ Below W.heap.size W w') := fun W b hW hb => by
    refine (buildOf_any _ lvB W hI (hS.below hW) (re_blk hb lvB_nil) lvB_fit (by decide) (by decide)).mono ?_
    rintro r w' ⟨dv, h1, h2, _, h4⟩
    rw [lvB_ok] at h1 h2
    rw [lvB_canon] at h2
    have h5 := h2 rfl
    obtain ⟨q, pv, PL, rfl, _⟩ := id h5
    exact ⟨q, h1, h5, h4⟩
  have CP : Hid (∀ W B1 B2 C1 C2 v1 v2, Below w.heap.size w W → DelV W B1 B2 v1 lvA → DelV W C1 C2 v2 lvB → Calls Tryz.prog 33 #[v1, v2] W fun r w' => ∃ q, r = .returned (.tuple #[.pointer (some ⟨q, 0, none⟩), .nilIface]) ∧ DelV w' W.heap.size W.heap.size (.pointer (some ⟨q, 0, none⟩)) lvC ∧ Below W.heap.size W w') := fun W B1 B2 C1 C2 v1 v2 hW d1 d2 => by
    refine (apply10_any v1 v2 lvA lvB W hI h11 (hS.below hW) (lvA_dle d1) (lvB_dle d2) lv_two).mono ?_
    rintro r w' ⟨dv, h1, _, h3, h4⟩
    have h5 := h3 _ lv_chk lv_edit
    rw [lv_doc] at h5
    rw [lv_chk] at h1
    obtain ⟨q, pv, PL, rfl, _⟩ := id h5
    exact ⟨q, h1, h5, h4⟩
  have CK : Hid (∀ W B1 B2 C1 C2 v1 v2, Below w.heap.size w W → DelV W B1 B2 v1 lvA → DelV W C1 C2 v2 lvB → Calls Tryz.prog 77 #[v1, v2] W fun r w' => ∃ p c g d, r = .returned (.tuple #[.slice p 2 c, .slice (some ⟨g, 0, none⟩) 2 d, .nilIface]) ∧ w'.cell? ⟨g, 1, none⟩ = some (.int .i64 2) ∧ Below W.heap.size W w') := fun W B1 B2 C1 C2 v1 v2 hW d1 d2 => by
    refine (kept10_any v1 v2 lvA lvB W hI h11 (hS.below hW) (lvA_dle d1) (lvB_dle d2) lv_two).mono ?_
    rintro r w' ⟨y1, y2, h1, _, h3, h4⟩
    obtain ⟨k1, k2⟩ := h3 lv_chk
    rw [lv_kep] at k1 k2
    obtain ⟨p, c, rfl⟩ := lv_own1 k1
    obtain ⟨g, d, rfl, hc⟩ := lv_own k2
    rw [lv_chk] at h1
    exact ⟨p, c, g, d, h1, hc, h4⟩
  have CH : Hid (∀ W B1 B2 C1 C2 v1 v2, Below w.heap.size w W → DelV W B1 B2 v1 lvA → DelV W C1 C2 v2 lvB → Calls Tryz.prog 36 #[v1, v2] W fun r w' => r = .returned (.tuple #[.bool true, .nilIface]) ∧ Below W.heap.size W w') := fun W B1 B2 C1 C2 v1 v2 hW d1 d2 => by
    refine (changes10_any v1 v2 lvA lvB W hI h11 (hS.below hW) (lvA_dle d1) (lvB_dle d2) lv_two (by decide)).mono ?_
    rintro r w' ⟨bv, h1, _, h3, h4⟩
    have h5 := h3 _ lv_chk lv_edit
    rw [lv_doc, decide_eq_false lv_ne] at h5
    subst h5
    rw [lv_chk] at h1
    exact ⟨h1, h4⟩
  have CF : Hid (∀ W B1 B2 C1 C2 v1 v2, Below w.heap.size w W → DelV W B1 B2 v1 lvA → DelV W C1 C2 v2 lvB → Calls Tryz.prog 35 #[v1, v2] W fun r w' => r = .returned (.bool true) ∧ Below W.heap.size W w') := fun W B1 B2 C1 C2 v1 v2 hW d1 d2 => by
    have := fits10_any v1 v2 lvA lvB W (hS.below hW) (hI 8 (by decide)) (hI 10 (by decide)) h11 (lvA_dle d1) (lvB_dle d2)
    rw [decide_eq_true lv_chk] at this
    exact this
  have CG : Hid (∀ W B1 B2 C1 C2 v1 v2, Below w.heap.size w W → DelV W B1 B2 v1 lvA → DelV W C1 C2 v2 lvB → Calls Tryz.prog 35 #[v2, v1] W fun r w' => r = .returned (.bool false) ∧ Below W.heap.size W w') := fun W B1 B2 C1 C2 v1 v2 hW d1 d2 => by
    have := fits10_any v2 v1 lvB lvA W (hS.below hW) (hI 8 (by decide)) (hI 10 (by decide)) h11 (lvB_dle d2) (lvA_dle d1)
    rw [lv_chk2] at this
    exact this
  have CI : Hid (∀ W b dv B1 B2, DelV W B1 B2 dv lvC → W.heap[b]? = some (.cells (cellsO (lvC.map ovN)).toArray 33 (0, 0)) → Calls Tryz.prog 30 #[dv, .slice (some ⟨b, 0, none⟩) 1 1] W fun r w' => r = .returned (.bool true) ∧ Below W.heap.size W w') := fun W b dv B1 B2 h hb => is7_any dv (.slice (some ⟨b, 0, none⟩) 1 1) lvC W h lvC_good (fun o ho => by rw [lvC_nil o ho]; simp) (by decide) (re_blk hb lvC_nil)
  clear hS hI h11
  go_enter Tryz.func31, Tryz.ntmps31
  have b0 := (Below.refl w.heap.size w).alloc (Nat.le_refl _) (.cells (cellsO (lvA.map ovN)).toArray 33)
  go_wp2_with fail
  refine (CA.out _ _ b0 (heap_alloc_new w _)).mono ?_; rintro r w1 ⟨q1, rfl, d1, hb1⟩
  have b1 := b0.trans (hb1.mono b0.size)
  have H1 : Hid (∃ B1 B2, DelV w1 B1 B2 (.pointer (some ⟨q1, 0, none⟩)) lvA) := ⟨_, _, d1⟩
  clear CA hb1 d1 b0
  have b1' := b1.alloc b1.size (.cells (cellsO (lvB.map ovN)).toArray 33)
  go_wp2_with fail
  refine (CB.out _ _ b1' (heap_alloc_new w1 _)).mono ?_; rintro r w2 ⟨q2, rfl, d2, hb2⟩
  have b2 := b1'.trans (hb2.mono b1'.size)
  have b12 : Below w1.heap.size w1 w2 := ((Below.refl _ _).alloc (Nat.le_refl _) (.cells (cellsO (lvB.map ovN)).toArray 33)).trans (hb2.mono (by rw [World.size_alloc]; omega))
  obtain ⟨A1, A2, d1⟩ := H1.out
  have HD : Hid (∀ W, Below w2.heap.size w2 W → DelV W A1 A2 (.pointer (some ⟨q1, 0, none⟩)) lvA ∧ DelV W (w1.alloc (.cells (cellsO (lvB.map ovN)).toArray 33)).heap.size (w1.alloc (.cells (cellsO (lvB.map ovN)).toArray 33)).heap.size (.pointer (some ⟨q2, 0, none⟩)) lvB) := fun W b => ⟨(d1.below b12).below b, d2.below b⟩
  clear CB hb2 d1 d2 b12 b1 b1' H1
  have cp := CP.out w2 _ _ _ _ _ _ b2 (HD.out w2 (Below.refl _ _)).1 (HD.out w2 (Below.refl _ _)).2
  clear CP
  go_wp2_with fail
  refine cp.mono ?_; rintro r w3 ⟨q3, rfl, d3, b23⟩
  have b3 := b2.trans (b23.mono b2.size)
  have H3 : Hid (∀ W, Below w3.heap.size w3 W → DelV W w2.heap.size w2.heap.size (.pointer (some ⟨q3, 0, none⟩)) lvC) := fun W b => d3.below b
  have ck := CK.out w3 _ _ _ _ _ _ b3 (HD.out w3 b23).1 (HD.out w3 b23).2
  clear cp d3 CK
  go_wp2_with fail
  refine ck.mono ?_; rintro r w4 ⟨p4, c4, g4, e4, rfl, k4, b34⟩
  have b4 := b3.trans (b34.mono b3.size)
  have b24 := b23.trans (b34.mono b23.size)
  have ch := CH.out w4 _ _ _ _ _ _ b4 (HD.out w4 b24).1 (HD.out w4 b24).2
  clear ck CH b23
  go_wp2_with fail
  refine ch.mono ?_; rintro r w5 ⟨rfl, b45⟩
  have b5 := b4.trans (b45.mono b4.size)
  have b25 := b24.trans (b45.mono b24.size)
  have b35 := b34.trans (b45.mono b34.size)
  have k5 := (b45.cell (lt_of_cell k4)).trans k4
  clear ch b45 k4 b34
  have HK : Hid (∀ W, Below w5.heap.size w5 W → W.cell? ⟨g4, 1, none⟩ = some (.int .i64 2)) := fun W b => (b.cell (lt_of_cell k5)).trans k5
  clear k5
  have a5 := (Below.refl w5.heap.size w5).alloc (Nat.le_refl _) (.cells (cellsO (lvC.map ovN)).toArray 33)
  have ci := CI.out (w5.alloc (.cells (cellsO (lvC.map ovN)).toArray 33)) w5.heap.size _ _ _ (H3.out _ (b35.trans (a5.mono b35.size))) (heap_alloc_new w5 _)
  clear CI
  go_wp2_with fail
  refine ci.mono ?_; rintro r w6 ⟨rfl, b56'⟩
  have b56 := a5.trans (b56'.mono (by rw [World.size_alloc]; omega))
  have b6 := b5.trans (b56.mono b5.size)
  have b26 := b25.trans (b56.mono b25.size)
  have k6 := HK.out w6 b56
  have cf := CF.out w6 _ _ _ _ _ _ b6 (HD.out w6 b26).1 (HD.out w6 b26).2
  clear ci b56' a5 b35
  go_wp2_with fail
  refine cf.mono ?_; rintro r w7 ⟨rfl, b67⟩
  have b7 := b6.trans (b67.mono b6.size)
  have b27 := b26.trans (b67.mono b26.size)
  have cg := CG.out w7 _ _ _ _ _ _ b7 (HD.out w7 b27).1 (HD.out w7 b27).2
  clear cf
  go_wp2_with fail
  refine cg.mono ?_; rintro r w8 ⟨rfl, b78⟩
  have b8 := b7.trans (b78.mono b7.size)
  clear cg
  go_wp2
  go_ret
  exact ⟨rfl, b8⟩
end Go.Proofs.YtplnojapnaaakaaGreatDoor

/- vellumref04.SameOps of any two lists. -/
namespace Go.Proofs.YtplnojapnaaakaaGreatDoor
open Go Go.RowKit Go.Lib
set_option linter.unusedVariables false
set_option maxHeartbeats 2000000 in
set_option maxRecDepth 100000 in
theorem sameD_any (v v' : Value) (E E' : List Op5) (w : World) (h : ReO w v E) (h' : ReO w v' E') (hl : E.length ≤ 2097152) (hl' : E'.length ≤ 2097152) (hA : ∀ e ∈ E, e.A.length ≤ 1048576) (hA' : ∀ e ∈ E', e.A.length ≤ 1048576) :
    Calls Tryz.prog 27 #[v, v'] w fun r w' => r = .returned (.bool (decide (E = E'))) ∧ Below w.heap.size w w' := by
  obtain ⟨D, hrow, hre⟩ := h
  obtain ⟨D', hrow', hre'⟩ := h'
  have hE := forall2_len hre
  have hE' := forall2_len hre'
  obtain ⟨n, hn⟩ : ∃ n, D.length = n := ⟨_, rfl⟩
  obtain ⟨m, hm⟩ : ∃ m, D'.length = m := ⟨_, rfl⟩
  obtain ⟨pa, ca, rfl, ha, _, hca⟩ := hrow
  obtain ⟨pb, cb, rfl, hb, _, hcb⟩ := hrow'
  rw [hn] at ha hE ⊢
  rw [hm] at hb hE' ⊢
  have HN : Hid (D.length = n ∧ D'.length = m ∧ E.length = n ∧ E'.length = m) := ⟨hn, hm, hE.symm, hE'.symm⟩
  by_cases hnm : n = m
  · subst hnm
    have HA : Hid (∀ (j : Nat) (d : OV), D[j]? = some d → ∃ b off, pa = some ⟨b, off, none⟩ ∧ OpAt w b (off + j * 7) d) := hca
    have HB : Hid (∀ (j : Nat) (d : OV), D'[j]? = some d → ∃ b off, pb = some ⟨b, off, none⟩ ∧ OpAt w b (off + j * 7) d) := hcb
    have hl : n ≤ 2097152 := by omega
    have CC : Hid (∀ (k : Nat) d d', D[k]? = some d → D'[k]? = some d' → ∃ e e', E[k]? = some e ∧ E'[k]? = some e' ∧ ∀ W, Below w.heap.size w W → Calls Tryz.prog 69 #[ovV d, ovV d'] W fun r w' => r = .returned (.bool (decide (e = e'))) ∧ Below W.heap.size W w') := fun k d d' h1 h2 => by
      obtain ⟨y, hy, r1⟩ := forall2_get hre k d h1
      obtain ⟨y', hy', r2⟩ := forall2_get hre' k d' h2
      refine ⟨y, y', hy, hy', fun W hW => ?_⟩
      rw [opV_of r1, opV_of r2]
      have h3 := hA y (List.mem_of_getElem? hy)
      have h4 := hA' y' (List.mem_of_getElem? hy')
      exact sameR_any y y' _ _ W (r1.2.2.2.2.below hW).row (r2.2.2.2.2.below hW).row (by omega) (by omega)
    clear hca hcb hn hm hre hre' hE hE' hA hA' hl'
    go_enter Tryz.func27, Tryz.ntmps27
    go_wp2
    go_loopw [14, 5, 6] (fun i _ _ wr => ∃ (k : Nat), k ≤ n ∧ i = .int .i64 k ∧ Hid (E.take k = E'.take k) ∧ Below w.heap.size w wr) (fun i _ _ _ => n - (RowKit.intOf i).toNat)
    case atStart => exact ⟨0, Nat.zero_le _, rfl, rfl, Below.refl _ _⟩
    case round =>
      obtain ⟨k, hk, rfl, HT, hbw⟩ := hrel
      by_cases hlt : k < n
      · have hltI : (k : Int) < n := by omega
        obtain ⟨d, hd⟩ : ∃ q, D[k]? = some q := ⟨_, List.getElem?_eq_getElem (by rw [HN.out.1]; exact hlt)⟩
        obtain ⟨d', hd'⟩ : ∃ q, D'[k]? = some q := ⟨_, List.getElem?_eq_getElem (by rw [HN.out.2.1]; exact hlt)⟩
        obtain ⟨e, e', he, he', cc⟩ := CC.out k d d' hd hd'
        obtain ⟨b, off, rfl, hin⟩ := HA.out k d hd
        obtain ⟨b', off', rfl, hin'⟩ := HB.out k d' hd'
        obtain ⟨c0, c1, c2, c3, c4, c5, c6⟩ := hin.below hbw
        obtain ⟨d0, d1, d2, d3, d4, d5, d6⟩ := hin'.below hbw
        have HEE : Hid (E[k]? = some e ∧ E'[k]? = some e') := ⟨he, he'⟩
        clear hin hin' hd hd' he he'
        obtain ⟨f, t, ⟨x, z, u⟩, cc1, p, j, c⟩ := d
        obtain ⟨f', t', ⟨x', z', u'⟩, cc1', p', j', c'⟩ := d'
        simp only [slV] at c0 c1 c2 c3 c4 c5 c6 d0 d1 d2 d3 d4 d5 d6
        simp only [ovV, ovC, slV] at cc
        have HU : Hid (∀ w', Below wr.drew.heap.size wr.drew w' → (w'.cell? ⟨b, off + k * 7, none⟩ = some (.int .i64 f) ∧ w'.cell? ⟨b, off + k * 7 + 1, none⟩ = some (.string t) ∧ w'.cell? ⟨b, off + k * 7 + 2, none⟩ = some (.int .i64 x) ∧ w'.cell? ⟨b, off + k * 7 + 3, none⟩ = some (.int .i64 z) ∧ w'.cell? ⟨b, off + k * 7 + 4, none⟩ = some (.string u) ∧ w'.cell? ⟨b, off + k * 7 + 5, none⟩ = some (.int .i64 cc1) ∧ w'.cell? ⟨b, off + k * 7 + 6, none⟩ = some (.slice p j c) ∧ w'.cell? ⟨b', off' + k * 7, none⟩ = some (.int .i64 f') ∧ w'.cell? ⟨b', off' + k * 7 + 1, none⟩ = some (.string t') ∧ w'.cell? ⟨b', off' + k * 7 + 2, none⟩ = some (.int .i64 x') ∧ w'.cell? ⟨b', off' + k * 7 + 3, none⟩ = some (.int .i64 z') ∧ w'.cell? ⟨b', off' + k * 7 + 4, none⟩ = some (.string u') ∧ w'.cell? ⟨b', off' + k * 7 + 5, none⟩ = some (.int .i64 cc1') ∧ w'.cell? ⟨b', off' + k * 7 + 6, none⟩ = some (.slice p' j' c'))) := fun w' hb => ⟨(hb.cell (lt_of_cell (w := wr.drew) c0)).trans c0, (hb.cell (lt_of_cell (w := wr.drew) c1)).trans c1, (hb.cell (lt_of_cell (w := wr.drew) c2)).trans c2, (hb.cell (lt_of_cell (w := wr.drew) c3)).trans c3, (hb.cell (lt_of_cell (w := wr.drew) c4)).trans c4, (hb.cell (lt_of_cell (w := wr.drew) c5)).trans c5, (hb.cell (lt_of_cell (w := wr.drew) c6)).trans c6, (hb.cell (lt_of_cell (w := wr.drew) d0)).trans d0, (hb.cell (lt_of_cell (w := wr.drew) d1)).trans d1, (hb.cell (lt_of_cell (w := wr.drew) d2)).trans d2, (hb.cell (lt_of_cell (w := wr.drew) d3)).trans d3, (hb.cell (lt_of_cell (w := wr.drew) d4)).trans d4, (hb.cell (lt_of_cell (w := wr.drew) d5)).trans d5, (hb.cell (lt_of_cell (w := wr.drew) d6)).trans d6⟩
        have hz0 : w.heap.size ≤ wr.drew.heap.size := hbw.size
        obtain ⟨q, hq⟩ : ∃ q, decide (e = e') = q := ⟨_, rfl⟩
        rw [hq] at cc
        have HQ : Hid (decide (e = e') = q) := hq
        clear hq
        cases q with
        | true =>
          have HT2 : Hid (E.take (k + 1) = E'.take (k + 1)) := take_eq_snoc HT.out HEE.out.1 HEE.out.2 (of_decide_eq_true HQ.out)
          go_wp2_with fail
          go_region_held3 (fun w' => (w'.cell? ⟨b, off + k * 7, none⟩ = some (.int .i64 f) ∧ w'.cell? ⟨b, off + k * 7 + 1, none⟩ = some (.string t) ∧ w'.cell? ⟨b, off + k * 7 + 2, none⟩ = some (.int .i64 x) ∧ w'.cell? ⟨b, off + k * 7 + 3, none⟩ = some (.int .i64 z) ∧ w'.cell? ⟨b, off + k * 7 + 4, none⟩ = some (.string u) ∧ w'.cell? ⟨b, off + k * 7 + 5, none⟩ = some (.int .i64 cc1) ∧ w'.cell? ⟨b, off + k * 7 + 6, none⟩ = some (.slice p j c) ∧ w'.cell? ⟨b', off' + k * 7, none⟩ = some (.int .i64 f') ∧ w'.cell? ⟨b', off' + k * 7 + 1, none⟩ = some (.string t') ∧ w'.cell? ⟨b', off' + k * 7 + 2, none⟩ = some (.int .i64 x') ∧ w'.cell? ⟨b', off' + k * 7 + 3, none⟩ = some (.int .i64 z') ∧ w'.cell? ⟨b', off' + k * 7 + 4, none⟩ = some (.string u') ∧ w'.cell? ⟨b', off' + k * 7 + 5, none⟩ = some (.int .i64 cc1') ∧ w'.cell? ⟨b', off' + k * 7 + 6, none⟩ = some (.slice p' j' c')) ∧ Below w.heap.size w w')
            (exact ⟨by first | (with_reducible assumption) | (simp [*]; done), by first | (with_reducible assumption) | exact hbw.drew⟩)
            (first | (go_at_call 69; refine (cc _ ?_).mono ?_; (· first | assumption | exact hbw.drew | (apply And.right; assumption)); rintro r w3 ⟨rfl, b3⟩; have b4 : Below w.heap.size w w3 := (hbw.drew).trans (b3.mono hz0); have mm := HU.out _ b3))
          clear cc mm b3
          go_wp2
          go_roundw
          case rel => exact ⟨k + 1, by omega, by go_num, HT2, b4⟩
          case measure => simp [RowKit.intOf]; omega
        | false =>
          have hfin : Hid (decide (E = E') = false) := decide_eq_false (ne_at HEE.out.1 HEE.out.2 (of_decide_eq_false HQ.out))
          go_wp2_with fail
          go_region_held3 (fun w' => (w'.cell? ⟨b, off + k * 7, none⟩ = some (.int .i64 f) ∧ w'.cell? ⟨b, off + k * 7 + 1, none⟩ = some (.string t) ∧ w'.cell? ⟨b, off + k * 7 + 2, none⟩ = some (.int .i64 x) ∧ w'.cell? ⟨b, off + k * 7 + 3, none⟩ = some (.int .i64 z) ∧ w'.cell? ⟨b, off + k * 7 + 4, none⟩ = some (.string u) ∧ w'.cell? ⟨b, off + k * 7 + 5, none⟩ = some (.int .i64 cc1) ∧ w'.cell? ⟨b, off + k * 7 + 6, none⟩ = some (.slice p j c) ∧ w'.cell? ⟨b', off' + k * 7, none⟩ = some (.int .i64 f') ∧ w'.cell? ⟨b', off' + k * 7 + 1, none⟩ = some (.string t') ∧ w'.cell? ⟨b', off' + k * 7 + 2, none⟩ = some (.int .i64 x') ∧ w'.cell? ⟨b', off' + k * 7 + 3, none⟩ = some (.int .i64 z') ∧ w'.cell? ⟨b', off' + k * 7 + 4, none⟩ = some (.string u') ∧ w'.cell? ⟨b', off' + k * 7 + 5, none⟩ = some (.int .i64 cc1') ∧ w'.cell? ⟨b', off' + k * 7 + 6, none⟩ = some (.slice p' j' c')) ∧ Below w.heap.size w w')
            (exact ⟨by first | (with_reducible assumption) | (simp [*]; done), by first | (with_reducible assumption) | exact hbw.drew⟩)
            (first | (go_at_call 69; refine (cc _ ?_).mono ?_; (· first | assumption | exact hbw.drew | (apply And.right; assumption)); rintro r w3 ⟨rfl, b3⟩; have b4 : Below w.heap.size w w3 := (hbw.drew).trans (b3.mono hz0); have mm := HU.out _ b3))
          clear cc mm b3
          go_wp2
          go_ret
          exact ⟨by rw [hfin.out]; rfl, b4⟩
      · have hltI : ¬ (k : Int) < n := by omega
        have hfin : Hid (decide (E = E') = true) := decide_eq_true (by
          have := HT.out
          rwa [List.take_of_length_le (by rw [HN.out.2.2.1]; omega), List.take_of_length_le (by rw [HN.out.2.2.2]; omega)] at this)
        go_wp2
        go_ret
        exact ⟨by rw [hfin.out]; rfl, hbw⟩
  · have hne : ((n : Int) != m) = true := by simp; omega
    have hfin : Hid (decide (E = E') = false) := decide_eq_false (fun h => hnm (by rw [← HN.out.2.2.1, ← HN.out.2.2.2, h]))
    clear hca hcb hn hm hre hre' hE hE' hA hA' hnm HN hl hl'
    go_enter Tryz.func27, Tryz.ntmps27
    go_wp2
    go_ret
    exact ⟨by rw [hfin.out]; rfl, Below.refl _ _⟩
end Go.Proofs.YtplnojapnaaakaaGreatDoor

/- A set behind a patch, key by key: how the joined list begins. -/
namespace Go.Proofs.YtplnojapnaaakaaGreatDoor
open Go Go.RowKit Go.Lib
set_option linter.unusedVariables false
/-- A pair that is no null, as a list. -/
def nzL (q : A2) : List A2 := if q.2.1 = 0 then [] else [q]
theorem fC_left {v : P3} (h : v.1 ≠ 0) : fOf (chC false) (some v) none = some v := by
  unfold fOf chC
  simp only [Option.isSome_none, Option.getD_some, Bool.false_or]
  rw [if_neg Bool.false_ne_true, if_pos (by simpa using h)]
theorem fC_right (o : Option P3) (k : ByteArray) (v : P3) : putO k (fOf (chC false) o (some v)) = nzL (k, v) := by
  unfold fOf chC nzL
  simp only [Option.isSome_some, Option.getD_some, Bool.false_or, if_true]
  by_cases h : v.1 = 0
  · rw [if_pos h, if_neg (by simpa using h)]; rfl
  · rw [if_neg h, if_pos (by simpa using h)]; rfl
theorem jn_lt {x y : A2} {a b : List A2} (h : kc x.1 y.1 < 0) (hx : x.2.1 ≠ 0) : jn (chC false) (x :: a) (y :: b) = x :: jn (chC false) a (y :: b) := by
  show joinL _ _ _ = _
  rw [joinL, if_pos h, fC_left hx]; rfl
theorem jn_eq {x y : A2} {a b : List A2} (h : kc x.1 y.1 = 0) : jn (chC false) (x :: a) (y :: b) = nzL y ++ jn (chC false) a b := by
  show joinL _ _ _ = _
  rw [joinL, if_neg (by omega), if_pos h, fC_right, kc_zero.1 h]
theorem jn_gt {x y : A2} {a b : List A2} (h : ¬ kc x.1 y.1 < 0) (h0 : ¬ kc x.1 y.1 = 0) : jn (chC false) (x :: a) (y :: b) = nzL y ++ jn (chC false) (x :: a) b := by
  show joinL _ _ _ = _
  rw [joinL, if_neg h, if_neg h0, fC_right]
theorem jn_none (y : A2) (b : List A2) : jn (chC false) [] (y :: b) = nzL y ++ jn (chC false) [] b := by
  show joinL _ _ _ = _
  rw [joinL, fC_right]
theorem jn_all {a : List A2} (h : NoNull a) : jn (chC false) a [] = a := by
  induction a with
  | nil => show joinL _ _ _ = _; rw [joinL]
  | cons x r ih =>
    show joinL _ _ _ = _
    rw [joinL, fC_left (h x (List.mem_cons_self ..))]
    show x :: jn (chC false) r [] = _
    rw [ih fun q hq => h q (List.mem_cons_of_mem _ hq)]
end Go.Proofs.YtplnojapnaaakaaGreatDoor

/- What vellumref10.Patched answers of a set and a patch. -/
namespace Go.Proofs.YtplnojapnaaakaaGreatDoor
open Go Go.RowKit Go.Lib
set_option linter.unusedVariables false
set_option maxHeartbeats 40000000 in
set_option maxRecDepth 100000 in
theorem patched10_any (vb va : Value) (B A : List A2) (w : World) (hB : RowA w vb B) (hA : RowA w va A) (zB : ∀ m c, vb = .slice none m c → m = 0 ∧ c = 0) (nB : NoNull B) (hl : A.length + B.length ≤ 1048576) :
    Calls Tryz.prog 116 #[vb, va] w fun r w' => ∃ v', r = .returned v' ∧ OwnA w' w.heap.size v' (jn (chC false) B A) ∧ Below w.heap.size w w' := by
  obtain ⟨n, hn⟩ : ∃ n, A.length = n := ⟨_, rfl⟩
  obtain ⟨m, hm⟩ : ∃ n, B.length = n := ⟨_, rfl⟩
  obtain ⟨pa, ca, rfl, hca, hcA⟩ := hA
  obtain ⟨pb, cb, rfl, hcb, hcB⟩ := hB
  rw [hn] at hl hca ⊢
  rw [hm] at hl hcb ⊢
  have HN : Hid (A.length = n ∧ B.length = m) := ⟨hn, hm⟩
  have HA : Hid _ := hcA
  have HB : Hid _ := hcB
  have HU : Hid (NoNull B) := nB
  have HZ : Hid _ := zB
  clear hcA hcB hn hm nB zB
  have oE := own_empty' w w.heap.size (Nat.le_refl _)
  have bE := (Below.refl w.heap.size w).alloc (Nat.le_refl _) (.cells #[] 154)
  go_enter Tryz.func116, Tryz.ntmps116
  go_wp2_with fail
  obtain ⟨v0, hv0⟩ : ∃ v0 : Value, v0 = .slice (some ⟨w.heap.size, 0, none⟩) 0 0 := ⟨_, rfl⟩
  rw [← hv0] at oE ⊢
  clear hv0
  go_loopw [5, 6, 12] (fun out i kk wr => ∃ (k j : Nat) (O : List A2), k ≤ n ∧ j ≤ m ∧ kk = .int .i64 k ∧ i = .int .i64 j ∧ OwnA wr w.heap.size out O ∧ Below w.heap.size w wr ∧ Hid (jn (chC false) B A = O ++ jn (chC false) (B.drop j) (A.drop k) ∧ O.length ≤ k + j)) (fun _ _ kk _ => n - (RowKit.intOf kk).toNat)
  case atStart => exact ⟨0, 0, [], Nat.zero_le _, Nat.zero_le _, rfl, rfl, oE, bE, by simp, by simp⟩
  case round =>
    obtain ⟨k, j, O, hk, hj, rfl, rfl, own, bw, H⟩ := hrel
    clear oE bE
    by_cases hlt : k < n
    · have hltI : (k : Int) < n := by omega
      obtain ⟨x, hx⟩ : ∃ q, A[k]? = some q := ⟨_, List.getElem?_eq_getElem (by rw [HN.out.1]; exact hlt)⟩
      obtain ⟨b, off, rfl, hp⟩ := HA.out k x hx
      obtain ⟨c0, c1, c2, c3⟩ := hp.below bw
      have HD : Hid (A.drop k = x :: A.drop (k + 1)) := drop_cons HN.out.1 hlt hx
      obtain ⟨xk, xx, xn, xt⟩ := x
      simp only at c0 c1 c2 c3
      have HO : Hid (OwnA wr w.heap.size u5 O) := own
      clear hp hx own
      go_wp2_with fail
      obtain ⟨W1, hW1⟩ : ∃ W1, W1 = wr.alloc (.cells #[.string xk, .int .i64 xx, .int .i64 xn, .string xt] 154) := ⟨_, rfl⟩
      have bW1 : Below w.heap.size w W1 := by rw [hW1]; exact bw.alloc bw.size _
      have oW1 : OwnA W1 w.heap.size u5 O := by rw [hW1]; exact owns_below HO.out ((Below.refl _ _).alloc (Nat.le_refl _) _)
      have pE : PairAt W1 wr.heap.size 0 (xk, xx, xn, xt) := by rw [hW1]; exact ⟨by simp, by simp, by simp, by simp⟩
      have offE : ∀ g, u5.ownBlock = some g → g ≠ wr.heap.size := fun g hg => by
        obtain ⟨_, cur, hc⟩ := owns_block HO.out g hg
        have := (Array.getElem?_eq_some_iff.1 hc).1
        omega
      obtain ⟨E, hE⟩ : ∃ E, wr.heap.size = E := ⟨_, rfl⟩
      rw [hE] at pE offE ⊢
      rw [← hW1]
      clear hW1 hE HO c0 c1 c2 c3 bw
      go_loopw [5, 6] (fun out i wr => ∃ (j : Nat) (O : List A2), j ≤ m ∧ i = .int .i64 j ∧ OwnA wr w.heap.size out O ∧ Below w.heap.size w wr ∧ PairAt wr E 0 (xk, xx, xn, xt) ∧ Hid (∀ g, out.ownBlock = some g → g ≠ E) ∧ Hid (jn (chC false) B A = O ++ jn (chC false) (B.drop j) (A.drop k) ∧ O.length ≤ k + j)) (fun _ i _ => m - (RowKit.intOf i).toNat)
      case atStart => exact ⟨j, O, hj, rfl, oW1, bW1, pE, offE, H⟩
      case round =>
        clear oW1 bW1 pE offE H hj
        obtain ⟨j, O, hj, rfl, own, bw, pE, offE, H⟩ := hrel
        obtain ⟨e0, e1, e2, e3⟩ := pE
        have PE : Hid (PairAt wr E 0 (xk, xx, xn, xt)) := ⟨e0, e1, e2, e3⟩
        have HO : Hid (OwnA wr w.heap.size u5 O) := own
        rw [Nat.zero_add] at e1 e2 e3
        simp only at e0 e1 e2 e3
        have hE : E < wr.heap.size := lt_of_cell e0
        clear own
        by_cases hjl : j < m
        · have hjI : (j : Int) < m := by omega
          have hj0 : (0 : Int) ≤ (j : Int) := by omega
          obtain ⟨y, hy⟩ : ∃ q, B[j]? = some q := ⟨_, List.getElem?_eq_getElem (by rw [HN.out.2]; exact hjl)⟩
          obtain ⟨b', off', rfl, hp⟩ := HB.out j y hy
          obtain ⟨d0, d1, d2, d3⟩ := hp.below bw
          have HD2 : Hid (B.drop j = y :: B.drop (j + 1)) := drop_cons HN.out.2 hjl hy
          have HY : Hid (y.2.1 ≠ 0) := HU.out y (List.mem_of_getElem? hy)
          obtain ⟨yk, yx, yn, yt⟩ := y
          simp only at d0 d1 d2 d3
          clear hp hy
          by_cases hlt2 : kc yk xk < 0
          · -- the set's next is smaller: it comes
            have q1 : Op.bytesLess yk.toList xk.toList = true := by rw [less_kc]; exact decide_eq_true hlt2
            have HH : Hid (jn (chC false) B A = (O ++ [(yk, yx, yn, yt)]) ++ jn (chC false) (B.drop (j + 1)) (A.drop k) ∧ (O ++ [(yk, yx, yn, yt)]).length ≤ k + (j + 1)) := by
              refine ⟨?_, by have := H.out.2; simp; omega⟩
              rw [H.out.1, HD.out, HD2.out, jn_lt (x := (yk, yx, yn, yt)) hlt2 HY.out]; simp
            have hLn : Hid (O.length + 1 ≤ 2097152) := by show _ ≤ _; have := H.out.2; omega
            clear H HY
            go_wp2_with fail
            go_quiet (fail)
            obtain ⟨wq, hwq⟩ : ∃ wq, wq = wr.drewN nq := ⟨_, rfl⟩
            have bq : Below w.heap.size w wq := by rw [hwq]; exact below_drewN bw _
            have PQ : Hid (PairAt wq E 0 (xk, xx, xn, xt)) := by rw [hwq]; exact PairAt.drewN PE.out _
            have OQ : Hid (OwnA wq w.heap.size u5 O) := by rw [hwq]; exact owns_same HO.out (fun _ _ => rfl)
            have hEq : E < wq.heap.size := by rw [hwq]; exact hE
            have f0 : wq.cell? ⟨b', off' + j * 4, none⟩ = some (.string yk) := by rw [hwq]; exact d0
            have f1 : wq.cell? ⟨b', off' + j * 4 + 1, none⟩ = some (.int .i64 yx) := by rw [hwq]; exact d1
            have f2 : wq.cell? ⟨b', off' + j * 4 + 2, none⟩ = some (.int .i64 yn) := by rw [hwq]; exact d2
            have f3 : wq.cell? ⟨b', off' + j * 4 + 3, none⟩ = some (.string yt) := by rw [hwq]; exact d3
            rw [← hwq]
            clear hwq HO PE e0 e1 e2 e3 bw hE d0 d1 d2 d3
            have o6 := owns_below OQ.out ((Below.refl wq.heap.size wq).alloc (Nat.le_refl _) (.cells #[.string yk, .int .i64 yx, .int .i64 yn, .string yt] 154))
            have b7 := bq.alloc bq.size (.cells #[.string yk, .int .i64 yx, .int .i64 yn, .string yt] 154)
            have p7 : Hid (PairAt (wq.alloc (.cells #[.string yk, .int .i64 yx, .int .i64 yn, .string yt] 154)) E 0 (xk, xx, xn, xt)) := PairAt.below PQ.out ((Below.refl _ _).alloc (Nat.le_refl _) _)
            have hge : ∀ g, u5.ownBlock = some g → w.heap.size ≤ g := fun g hg => (owns_block o6 g hg).1
            go_wp2_with (at_builtin; refine wpList_append_atx rfl (.tmp 30) (.tmp 35) rfl w.heap.size u5 O rfl o6 wq.heap.size 0 1 1 [(yk, yx, yn, yt)] rfl rfl (one_at ⟨by simp, by simp, by simp, by simp⟩) hLn.out b7.size ?_; intro v' w6 own' gr' hat')
            have b8 := b7.grown gr' b7.size (fun g hg => hge g hg)
            have p8 : PairAt w6 E 0 (xk, xx, xn, xt) := PairAt.grown p7.out gr' (fun e => offE.out E e.symm rfl)
            have off8 : Hid (∀ g, v'.ownBlock = some g → g ≠ E) := fun g hg => by
              rcases hat' with h | h
              · exact offE.out g (by rw [← h]; exact hg)
              · rw [h] at hg
                have := Option.some.inj hg
                simp at this
                omega
            refine ⟨⟨j + 1, _, by omega, by go_num, own', b8, p8, off8, HH.out⟩, ?_⟩
            simp [RowKit.intOf]; omega
          · have q1 : Op.bytesLess yk.toList xk.toList = false := by rw [less_kc]; exact decide_eq_false hlt2
            by_cases heq : yk = xk
            · have q2 := beq_key (x := yk) (y := xk) true (decide_eq_true heq)
              have HH : Hid (jn (chC false) B A = O ++ (nzL (xk, xx, xn, xt) ++ jn (chC false) (B.drop (j + 1)) (A.drop (k + 1))) ∧ O.length ≤ k + j) := by
                refine ⟨?_, H.out.2⟩
                rw [H.out.1, HD.out, HD2.out, jn_eq (x := (yk, yx, yn, yt)) (y := (xk, xx, xn, xt)) (by show kc yk xk = 0; rw [heq]; exact kc_self _)]
              clear H heq hlt2 HY
              go_wp2_with fail
              go_quiet (fail)
              clear offE hE PE
              obtain ⟨wq, hw_wq⟩ : ∃ W', W' = wr.drewN nq := ⟨_, rfl⟩
              have b_wq : Below w.heap.size w wq := by rw [hw_wq]; exact below_drewN bw _
              have O_wq : Hid (OwnA wq w.heap.size u5 O) := by rw [hw_wq]; exact owns_same HO.out (fun _ _ => rfl)
              have e0_wq : wq.cell? ⟨E, 0, none⟩ = some (.string xk) := by rw [hw_wq]; exact e0
              have e1_wq : wq.cell? ⟨E, 1, none⟩ = some (.int .i64 xx) := by rw [hw_wq]; exact e1
              have e2_wq : wq.cell? ⟨E, 2, none⟩ = some (.int .i64 xn) := by rw [hw_wq]; exact e2
              have e3_wq : wq.cell? ⟨E, 3, none⟩ = some (.string xt) := by rw [hw_wq]; exact e3
              have f0_wq : wq.cell? ⟨b', off' + j * 4, none⟩ = some (.string yk) := by rw [hw_wq]; exact d0
              rw [← hw_wq]
              clear hw_wq bw HO e0 e1 e2 e3
              clear d0 d1 d2 d3
              go_wp2_with fail
              go_quiet (fail)
              obtain ⟨wz, hw_wz⟩ : ∃ W', W' = wq.drewN nq := ⟨_, rfl⟩
              have b_wz : Below w.heap.size w wz := by rw [hw_wz]; exact below_drewN b_wq _
              have O_wz : Hid (OwnA wz w.heap.size u5 O) := by rw [hw_wz]; exact owns_same O_wq.out (fun _ _ => rfl)
              have e0_wz : wz.cell? ⟨E, 0, none⟩ = some (.string xk) := by rw [hw_wz]; exact e0_wq
              have e1_wz : wz.cell? ⟨E, 1, none⟩ = some (.int .i64 xx) := by rw [hw_wz]; exact e1_wq
              have e2_wz : wz.cell? ⟨E, 2, none⟩ = some (.int .i64 xn) := by rw [hw_wz]; exact e2_wq
              have e3_wz : wz.cell? ⟨E, 3, none⟩ = some (.string xt) := by rw [hw_wz]; exact e3_wq
              have f0_wz : wz.cell? ⟨b', off' + j * 4, none⟩ = some (.string yk) := by rw [hw_wz]; exact f0_wq
              rw [← hw_wz]
              clear hw_wz b_wq O_wq e0_wq e1_wq e2_wq e3_wq
              clear f0_wq
              clear f0_wz
              by_cases hx0 : xx = 0
              · have q5 : (xx != 0) = false := by rw [hx0]; rfl
                have HR : Hid (jn (chC false) B A = O ++ jn (chC false) (B.drop (j + 1)) (A.drop (k + 1)) ∧ O.length ≤ k + 1 + (j + 1)) := ⟨by rw [HH.out.1]; unfold nzL; rw [if_pos (show ((xk, xx, xn, xt) : A2).2.1 = 0 from hx0)]; rfl, by have := HH.out.2; omega⟩
                clear HH hx0
                go_wp2_with fail
                go_roundw
                case rel => exact ⟨k + 1, j + 1, O, by omega, by omega, by go_num, by go_num, O_wz.out, b_wz, HR.out⟩
                case measure => simp [RowKit.intOf]; omega
              · have q5 : (xx != 0) = true := by rw [bne_iff_ne]; exact hx0
                have HR : Hid (jn (chC false) B A = (O ++ [(xk, xx, xn, xt)]) ++ jn (chC false) (B.drop (j + 1)) (A.drop (k + 1)) ∧ (O ++ [(xk, xx, xn, xt)]).length ≤ k + 1 + (j + 1)) := ⟨by rw [HH.out.1]; unfold nzL; rw [if_neg (show ¬ ((xk, xx, xn, xt) : A2).2.1 = 0 from hx0), List.append_assoc], by have := HH.out.2; simp; omega⟩
                have hLn : Hid (O.length + 1 ≤ 2097152) := by show _ ≤ _; have := HH.out.2; omega
                clear HH hx0
                have o6 := owns_below O_wz.out ((Below.refl wz.heap.size wz).alloc (Nat.le_refl _) (.cells #[.string xk, .int .i64 xx, .int .i64 xn, .string xt] 154))
                have b7 := b_wz.alloc b_wz.size (.cells #[.string xk, .int .i64 xx, .int .i64 xn, .string xt] 154)
                have hge : ∀ g, u5.ownBlock = some g → w.heap.size ≤ g := fun g hg => (owns_block o6 g hg).1
                go_wp2_with (at_builtin; refine wpList_append_atx rfl (.tmp 59) (.tmp 61) rfl w.heap.size u5 O rfl o6 wz.heap.size 0 1 1 [(xk, xx, xn, xt)] rfl rfl (one_at ⟨by simp, by simp, by simp, by simp⟩) hLn.out b7.size ?_; intro v' w6 own' gr' hat')
                have b8 := b7.grown gr' b7.size (fun g hg => hge g hg)
                go_roundw
                case rel => exact ⟨k + 1, j + 1, _, by omega, by omega, by go_num, by go_num, own', b8, HR.out⟩
                case measure => simp [RowKit.intOf]; omega
            · have q2 := beq_key (x := yk) (y := xk) false (decide_eq_false heq)
              have HH : Hid (jn (chC false) B A = O ++ (nzL (xk, xx, xn, xt) ++ jn (chC false) (B.drop (j)) (A.drop (k + 1))) ∧ O.length ≤ k + j) := by
                refine ⟨?_, H.out.2⟩
                rw [H.out.1, HD.out, HD2.out, jn_gt (x := (yk, yx, yn, yt)) (y := (xk, xx, xn, xt)) hlt2 (fun h => heq (kc_zero.1 h))]
              clear H heq hlt2 HY
              go_wp2_with fail
              go_quiet (fail)
              clear offE hE PE
              obtain ⟨wq, hw_wq⟩ : ∃ W', W' = wr.drewN nq := ⟨_, rfl⟩
              have b_wq : Below w.heap.size w wq := by rw [hw_wq]; exact below_drewN bw _
              have O_wq : Hid (OwnA wq w.heap.size u5 O) := by rw [hw_wq]; exact owns_same HO.out (fun _ _ => rfl)
              have e0_wq : wq.cell? ⟨E, 0, none⟩ = some (.string xk) := by rw [hw_wq]; exact e0
              have e1_wq : wq.cell? ⟨E, 1, none⟩ = some (.int .i64 xx) := by rw [hw_wq]; exact e1
              have e2_wq : wq.cell? ⟨E, 2, none⟩ = some (.int .i64 xn) := by rw [hw_wq]; exact e2
              have e3_wq : wq.cell? ⟨E, 3, none⟩ = some (.string xt) := by rw [hw_wq]; exact e3
              have f0_wq : wq.cell? ⟨b', off' + j * 4, none⟩ = some (.string yk) := by rw [hw_wq]; exact d0
              rw [← hw_wq]
              clear hw_wq bw HO e0 e1 e2 e3
              clear d0 d1 d2 d3
              go_wp2_with fail
              go_quiet (fail)
              obtain ⟨wz, hw_wz⟩ : ∃ W', W' = wq.drewN nq := ⟨_, rfl⟩
              have b_wz : Below w.heap.size w wz := by rw [hw_wz]; exact below_drewN b_wq _
              have O_wz : Hid (OwnA wz w.heap.size u5 O) := by rw [hw_wz]; exact owns_same O_wq.out (fun _ _ => rfl)
              have e0_wz : wz.cell? ⟨E, 0, none⟩ = some (.string xk) := by rw [hw_wz]; exact e0_wq
              have e1_wz : wz.cell? ⟨E, 1, none⟩ = some (.int .i64 xx) := by rw [hw_wz]; exact e1_wq
              have e2_wz : wz.cell? ⟨E, 2, none⟩ = some (.int .i64 xn) := by rw [hw_wz]; exact e2_wq
              have e3_wz : wz.cell? ⟨E, 3, none⟩ = some (.string xt) := by rw [hw_wz]; exact e3_wq
              have f0_wz : wz.cell? ⟨b', off' + j * 4, none⟩ = some (.string yk) := by rw [hw_wz]; exact f0_wq
              rw [← hw_wz]
              clear hw_wz b_wq O_wq e0_wq e1_wq e2_wq e3_wq
              clear f0_wq
              clear f0_wz
              by_cases hx0 : xx = 0
              · have q5 : (xx != 0) = false := by rw [hx0]; rfl
                have HR : Hid (jn (chC false) B A = O ++ jn (chC false) (B.drop (j)) (A.drop (k + 1)) ∧ O.length ≤ k + 1 + (j)) := ⟨by rw [HH.out.1]; unfold nzL; rw [if_pos (show ((xk, xx, xn, xt) : A2).2.1 = 0 from hx0)]; rfl, by have := HH.out.2; omega⟩
                clear HH hx0
                go_wp2_with fail
                go_roundw
                case rel => exact ⟨k + 1, j, O, by omega, by omega, by go_num, by go_num, O_wz.out, b_wz, HR.out⟩
                case measure => simp [RowKit.intOf]; omega
              · have q5 : (xx != 0) = true := by rw [bne_iff_ne]; exact hx0
                have HR : Hid (jn (chC false) B A = (O ++ [(xk, xx, xn, xt)]) ++ jn (chC false) (B.drop (j)) (A.drop (k + 1)) ∧ (O ++ [(xk, xx, xn, xt)]).length ≤ k + 1 + (j)) := ⟨by rw [HH.out.1]; unfold nzL; rw [if_neg (show ¬ ((xk, xx, xn, xt) : A2).2.1 = 0 from hx0), List.append_assoc], by have := HH.out.2; simp; omega⟩
                have hLn : Hid (O.length + 1 ≤ 2097152) := by show _ ≤ _; have := HH.out.2; omega
                clear HH hx0
                have o6 := owns_below O_wz.out ((Below.refl wz.heap.size wz).alloc (Nat.le_refl _) (.cells #[.string xk, .int .i64 xx, .int .i64 xn, .string xt] 154))
                have b7 := b_wz.alloc b_wz.size (.cells #[.string xk, .int .i64 xx, .int .i64 xn, .string xt] 154)
                have hge : ∀ g, u5.ownBlock = some g → w.heap.size ≤ g := fun g hg => (owns_block o6 g hg).1
                go_wp2_with (at_builtin; refine wpList_append_atx rfl (.tmp 59) (.tmp 61) rfl w.heap.size u5 O rfl o6 wz.heap.size 0 1 1 [(xk, xx, xn, xt)] rfl rfl (one_at ⟨by simp, by simp, by simp, by simp⟩) hLn.out b7.size ?_; intro v' w6 own' gr' hat')
                have b8 := b7.grown gr' b7.size (fun g hg => hge g hg)
                go_roundw
                case rel => exact ⟨k + 1, j, _, by omega, by omega, by go_num, by go_num, own', b8, HR.out⟩
                case measure => simp [RowKit.intOf]; omega
        · have hjm : j = m := by omega
          have hjI : decide ((j : Int) < (m : Int)) = false := decide_eq_false (by omega)
          have hjI2 : ¬ (j : Int) < (m : Int) := by omega
          have HD2 : Hid (B.drop j = []) := List.drop_of_length_le (by rw [HN.out.2]; omega)
          have HH : Hid (jn (chC false) B A = O ++ (nzL (xk, xx, xn, xt) ++ jn (chC false) (B.drop (j)) (A.drop (k + 1))) ∧ O.length ≤ k + j) := by
            refine ⟨?_, H.out.2⟩
            rw [H.out.1, HD.out, HD2.out, jn_none]
          clear H hjm
          go_wp2_with fail
          go_quiet (fail)
          clear offE hE PE
          obtain ⟨wq, hw_wq⟩ : ∃ W', W' = wr.drewN nq := ⟨_, rfl⟩
          have b_wq : Below w.heap.size w wq := by rw [hw_wq]; exact below_drewN bw _
          have O_wq : Hid (OwnA wq w.heap.size u5 O) := by rw [hw_wq]; exact owns_same HO.out (fun _ _ => rfl)
          have e0_wq : wq.cell? ⟨E, 0, none⟩ = some (.string xk) := by rw [hw_wq]; exact e0
          have e1_wq : wq.cell? ⟨E, 1, none⟩ = some (.int .i64 xx) := by rw [hw_wq]; exact e1
          have e2_wq : wq.cell? ⟨E, 2, none⟩ = some (.int .i64 xn) := by rw [hw_wq]; exact e2
          have e3_wq : wq.cell? ⟨E, 3, none⟩ = some (.string xt) := by rw [hw_wq]; exact e3
          rw [← hw_wq]
          clear hw_wq bw HO e0 e1 e2 e3
          go_wp2_with fail
          go_quiet (fail)
          obtain ⟨wz, hw_wz⟩ : ∃ W', W' = wq.drewN nq := ⟨_, rfl⟩
          have b_wz : Below w.heap.size w wz := by rw [hw_wz]; exact below_drewN b_wq _
          have O_wz : Hid (OwnA wz w.heap.size u5 O) := by rw [hw_wz]; exact owns_same O_wq.out (fun _ _ => rfl)
          have e0_wz : wz.cell? ⟨E, 0, none⟩ = some (.string xk) := by rw [hw_wz]; exact e0_wq
          have e1_wz : wz.cell? ⟨E, 1, none⟩ = some (.int .i64 xx) := by rw [hw_wz]; exact e1_wq
          have e2_wz : wz.cell? ⟨E, 2, none⟩ = some (.int .i64 xn) := by rw [hw_wz]; exact e2_wq
          have e3_wz : wz.cell? ⟨E, 3, none⟩ = some (.string xt) := by rw [hw_wz]; exact e3_wq
          rw [← hw_wz]
          clear hw_wz b_wq O_wq e0_wq e1_wq e2_wq e3_wq
          by_cases hx0 : xx = 0
          · have q5 : (xx != 0) = false := by rw [hx0]; rfl
            have HR : Hid (jn (chC false) B A = O ++ jn (chC false) (B.drop (j)) (A.drop (k + 1)) ∧ O.length ≤ k + 1 + (j)) := ⟨by rw [HH.out.1]; unfold nzL; rw [if_pos (show ((xk, xx, xn, xt) : A2).2.1 = 0 from hx0)]; rfl, by have := HH.out.2; omega⟩
            clear HH hx0
            go_wp2_with fail
            go_roundw
            case rel => exact ⟨k + 1, j, O, by omega, by omega, by go_num, by go_num, O_wz.out, b_wz, HR.out⟩
            case measure => simp [RowKit.intOf]; omega
          · have q5 : (xx != 0) = true := by rw [bne_iff_ne]; exact hx0
            have HR : Hid (jn (chC false) B A = (O ++ [(xk, xx, xn, xt)]) ++ jn (chC false) (B.drop (j)) (A.drop (k + 1)) ∧ (O ++ [(xk, xx, xn, xt)]).length ≤ k + 1 + (j)) := ⟨by rw [HH.out.1]; unfold nzL; rw [if_neg (show ¬ ((xk, xx, xn, xt) : A2).2.1 = 0 from hx0), List.append_assoc], by have := HH.out.2; simp; omega⟩
            have hLn : Hid (O.length + 1 ≤ 2097152) := by show _ ≤ _; have := HH.out.2; omega
            clear HH hx0
            have o6 := owns_below O_wz.out ((Below.refl wz.heap.size wz).alloc (Nat.le_refl _) (.cells #[.string xk, .int .i64 xx, .int .i64 xn, .string xt] 154))
            have b7 := b_wz.alloc b_wz.size (.cells #[.string xk, .int .i64 xx, .int .i64 xn, .string xt] 154)
            have hge : ∀ g, u5.ownBlock = some g → w.heap.size ≤ g := fun g hg => (owns_block o6 g hg).1
            go_wp2_with (at_builtin; refine wpList_append_atx rfl (.tmp 59) (.tmp 61) rfl w.heap.size u5 O rfl o6 wz.heap.size 0 1 1 [(xk, xx, xn, xt)] rfl rfl (one_at ⟨by simp, by simp, by simp, by simp⟩) hLn.out b7.size ?_; intro v' w6 own' gr' hat')
            have b8 := b7.grown gr' b7.size (fun g hg => hge g hg)
            go_roundw
            case rel => exact ⟨k + 1, j, _, by omega, by omega, by go_num, by go_num, own', b8, HR.out⟩
            case measure => simp [RowKit.intOf]; omega
    · have hkn : k = n := by omega
      have hltI : ¬ (k : Int) < n := by omega
      have HJ : Hid (O ++ B.drop j = jn (chC false) B A ∧ O.length + (m - j) ≤ 2097152) := by
        refine ⟨?_, by have := H.out.2; omega⟩
        have h0 : A.drop k = [] := List.drop_of_length_le (by rw [HN.out.1]; omega)
        rw [H.out.1, h0, jn_all fun q hq => HU.out q (List.mem_of_mem_drop hq)]
      clear H hkn
      have HO : Hid (OwnA wr w.heap.size u5 O) := own
      clear own
      have lM : Hid ((B.drop j).length = m - j) := by show _ = _; rw [List.length_drop, HN.out.2]
      have hj0 : (0 : Int) ≤ (j : Int) := by omega
      have hj1 : (j : Int) ≤ (m : Int) := by omega
      have hge : ∀ g, u5.ownBlock = some g → w.heap.size ≤ g := fun g hg => (owns_block HO.out g hg).1
      cases pb with
      | none =>
        obtain ⟨hm0, rfl⟩ := HZ.out _ _ rfl
        have hm1 : m = 0 := by rw [← HN.out.2]; exact hm0
        subst hm1
        obtain rfl : j = 0 := by omega
        have hB0 : Hid (B.drop 0 = []) := by show _ = _; exact List.eq_nil_of_length_eq_zero (by rw [lM.out])
        obtain ⟨i0, z0', hi, hz, hz1, hz2, hz3⟩ := infoAt
        go_wp2_with (at_builtin; refine wpList_append_own_none rfl (.tmp 64) (.tmp 67) 31 rfl w.heap.size 154 i0 4 Tryz.underlying31 hi u5 O.length (cellsA O) rfl HO.out rfl ?_)
        clear hi hz hz1 hz2 hz3
        go_wp2
        go_ret
        exact ⟨_, rfl, by rw [← HJ.out.1, hB0.out, List.append_nil]; exact HO.out, bw⟩
      | some ad =>
        by_cases hjm : j = m
        · have hjm' : Hid (j = m) := hjm
          clear hjm
          have hB0 : Hid (B.drop j = []) := by show _ = _; exact List.eq_nil_of_length_eq_zero (by rw [lM.out]; have := hjm'.out; omega)
          have hLO : Hid (O.length ≤ 2097152) := by show _ ≤ _; have := HJ.out.2; omega
          by_cases hcj : cb = j
          · have hcj' : j = cb := hcj.symm
            subst hcj'
            go_wp2_with (at_builtin; refine wpList_append_emp rfl (.tmp 64) (.tmp 67) rfl w.heap.size u5 O rfl HO.out _ _ _ rfl (by have := hjm'.out; omega) hLO.out bw.size ?_; intro v' w6 own' gr' hat')
            have b9 := bw.grown gr' bw.size (fun g hg => hge g hg)
            go_wp2
            go_ret
            exact ⟨_, rfl, by rw [← HJ.out.1, hB0.out, List.append_nil]; exact own', b9⟩
          · go_wp2_with (at_builtin; refine wpList_append_emp rfl (.tmp 64) (.tmp 67) rfl w.heap.size u5 O rfl HO.out _ _ _ rfl (by have := hjm'.out; omega) hLO.out bw.size ?_; intro v' w6 own' gr' hat')
            have b9 := bw.grown gr' bw.size (fun g hg => hge g hg)
            go_wp2
            go_ret
            exact ⟨_, rfl, by rw [← HJ.out.1, hB0.out, List.append_nil]; exact own', b9⟩
        · obtain ⟨y0, hy0⟩ : ∃ q, B[j]? = some q := ⟨_, List.getElem?_eq_getElem (by rw [HN.out.2]; omega)⟩
          obtain ⟨b0, off0, hpb, _⟩ := HB.out j y0 hy0
          cases hpb
          clear hy0
          have hcj : ¬ cb = j := by omega
          have hM : Hid (∀ (i : Nat) (q : A2), (B.drop j)[i]? = some q → PairAt wr b0 (off0 + j * 4 + i * 4) q) := fun i q hq => by
            rw [List.getElem?_drop] at hq
            obtain ⟨b1, off1, he, h1⟩ := HB.out _ q hq
            cases he
            rw [show off0 + j * 4 + i * 4 = off0 + (j + i) * 4 by omega]
            exact h1.below bw
          have hLO : Hid (O.length + (m - j) ≤ 2097152) := HJ.out.2
          go_wp2_with (at_builtin; refine wpList_append_atx rfl (.tmp 64) (.tmp 67) rfl w.heap.size u5 O rfl HO.out b0 (off0 + j * 4) (m - j) (cb - j) (B.drop j) rfl lM.out hM.out hLO.out bw.size ?_; intro v' w6 own' gr' hat')
          have b9 := bw.grown gr' bw.size (fun g hg => hge g hg)
          go_wp2
          go_ret
          exact ⟨_, rfl, by rw [← HJ.out.1]; exact own', b9⟩
end Go.Proofs.YtplnojapnaaakaaGreatDoor

/- Lists of inserts, one put behind the other; rows of operations whose lists are the call's own. -/
namespace Go.Proofs.YtplnojapnaaakaaGreatDoor
open Go Go.RowKit Go.Lib
set_option linter.unusedVariables false
theorem docL_snoc {F : List Op5} {x : Op5} : DocL (F ++ [x]) ↔ DocL F ∧ (x.k = 1 ∨ x.k = 2) := by
  constructor
  · intro h
    exact ⟨fun o ho => h o (List.mem_append.2 (.inl ho)), h x (List.mem_append.2 (.inr (List.mem_singleton.2 rfl)))⟩
  · rintro ⟨h1, h2⟩ o ho
    rcases List.mem_append.1 ho with h | h
    · exact h1 o h
    · rw [List.mem_singleton.1 h]; exact h2
theorem push_doc {out : List Op5} {o : Op5} (h : DocL out) (ho : o.k = 1 ∨ o.k = 2) : DocL (pushL out o) := by
  rcases List.eq_nil_or_concat out with rfl | ⟨F, x, rfl⟩
  · rw [push_nil]; intro y hy; rw [List.mem_singleton.1 hy]; exact ho
  · rw [List.concat_eq_append] at h ⊢
    obtain ⟨h1, h2⟩ := docL_snoc.1 h
    by_cases hc : x.k ≠ o.k ∨ o.k = 2 ∨ x.A ≠ o.A
    · rw [push_apart hc]; exact docL_snoc.2 ⟨h, ho⟩
    · rw [push_join hc]; exact docL_snoc.2 ⟨h1, h2⟩
theorem fold_doc : ∀ (E out : List Op5), DocL out → DocL E → DocL (E.foldl pushL out)
  | [], out, h, _ => h
  | o :: r, out, h, hE => fold_doc r (pushL out o) (push_doc h (hE o (List.mem_cons_self ..))) fun x hx => hE x (List.mem_cons_of_mem _ hx)
theorem run_doc : ∀ (E A G : List Op5) (g : Int), DocL E → E.foldl stepC (A, G, g) = (A, G ++ E, g)
  | [], A, G, g, _ => by simp
  | o :: r, A, G, g, h => by
    have ho := h o (List.mem_cons_self ..)
    rw [List.foldl_cons]
    have e : stepC (A, G, g) o = (A, G ++ [o], g) := if_pos ho
    rw [e, run_doc r A (G ++ [o]) g fun x hx => h x (List.mem_cons_of_mem _ hx)]
    simp
/-- The canonical list of inserts. -/
theorem canon_doc {E : List Op5} (h : DocL E) : canonL E = E.foldl pushL [] := by
  unfold canonL runC
  rw [run_doc E [] [] 0 h, List.nil_append]
  unfold flushL
  rw [if_neg (by show ¬ (0 : Int) < 0; decide)]
  have hd := fold_doc E [] (fun o h => by cases h) h
  unfold trimL
  rcases List.eq_nil_or_concat (E.foldl pushL []) with e | ⟨F, x, e⟩
  · rw [e]; rfl
  · rw [e, List.concat_eq_append] at hd ⊢
    rw [List.getLast?_concat]
    have hx := (docL_snoc.1 hd).2
    have hp : plainR x = false := by
      unfold plainR
      rcases hx with hx | hx <;> rw [hx] <;> rfl
    show (if plainR x = true then _ else _) = _
    rw [hp]; rfl
theorem fold_take {E : List Op5} {k : Nat} {e : Op5} (he : E[k]? = some e) : (E.take (k + 1)).foldl pushL [] = pushL ((E.take k).foldl pushL []) e := by
  rw [List.take_add_one, he, Option.toList_some, List.foldl_append]; rfl
theorem fold_len : ∀ (E out : List Op5), (E.foldl pushL out).length ≤ out.length + E.length
  | [], out => by simp
  | o :: r, out => by
    have h1 := fold_len r (pushL out o)
    have h2 : (pushL out o).length ≤ out.length + 1 := by
      rcases List.eq_nil_or_concat out with rfl | ⟨F, x, rfl⟩
      · rw [push_nil]; simp
      · rw [List.concat_eq_append]
        by_cases hc : x.k ≠ o.k ∨ o.k = 2 ∨ x.A ≠ o.A
        · rw [push_apart hc, List.length_append]; simp
        · rw [push_join hc]; simp
    rw [List.foldl_cons, List.length_cons]; omega
/-- What is put behind is as long as both. -/
theorem push_txt (out : List Op5) (o : Op5) : txtS (pushL out o) = txtS out + o.t.size := by
  rcases List.eq_nil_or_concat out with rfl | ⟨F, x, rfl⟩
  · rw [push_nil, txtS_one]; simp [txtS]
  · rw [List.concat_eq_append]
    by_cases hc : x.k ≠ o.k ∨ o.k = 2 ∨ x.A ≠ o.A
    · rw [push_apart hc, txtS_append, txtS_one]
    · rw [push_join hc, txtS_append, txtS_one, txtS_append, txtS_one]
      show txtS F + (x.t ++ o.t).size = _
      rw [ByteArray.size_append]; omega
theorem fold_txt : ∀ (E out : List Op5), txtS (E.foldl pushL out) = txtS out + txtS E
  | [], out => by simp [txtS]
  | o :: r, out => by rw [List.foldl_cons, fold_txt r, push_txt, txtS_cons]; omega

/-- What the operations of a row are, each list the call's own. -/
def ReOw (w : World) (B : Nat) (D : List OV) (E : List Op5) : Prop := All2 (fun (d : OV) (e : Op5) => d.1 = e.k ∧ d.2.1 = e.t ∧ d.2.2.1 = e.v ∧ d.2.2.2.1 = e.c ∧ OwnA w B (slV d.2.2.2.2) e.A) D E
theorem ReOw.re {w : World} {B : Nat} {D : List OV} {E : List Op5} (h : ReOw w B D E) : ReD w D E := All2.imp (fun d e h => ⟨h.1, h.2.1, h.2.2.1, h.2.2.2.1, own_RN h.2.2.2.2⟩) h
theorem ReOw.keep {w w' : World} {B : Nat} {D : List OV} {E : List Op5} (h : ReOw w B D E) (hk : KeepA w w') : ReOw w' B D E := All2.imp (fun d e h => ⟨h.1, h.2.1, h.2.2.1, h.2.2.2.1, keepA_own h.2.2.2.2 hk⟩) h
theorem ReOw.weaken {w : World} {B B' : Nat} {D : List OV} {E : List Op5} (h : ReOw w B D E) (hb : B' ≤ B) : ReOw w B' D E := All2.imp (fun d e h => ⟨h.1, h.2.1, h.2.2.1, h.2.2.2.1, own_weaken h.2.2.2.2 hb⟩) h
theorem AreO.weaken {w : World} {B B' : Nat} {D : List CV} {E : List C5} (h : AreO w B D E) (hb : B' ≤ B) : AreO w B' D E := All2.imp (fun d e h => ⟨h.1, h.2.1, h.2.2.1, own_weaken h.2.2.2 hb⟩) h
theorem keepA_row1 {w w' : World} {B : Nat} {v : Value} {D : List OV} (h : OwnO w B v D) (g : Row1 v w w') : KeepA w w' := fun k cur hk => by
  refine g.block k (Array.getElem?_eq_some_iff.1 hk).1 fun e => ?_
  obtain ⟨_, cur', h3⟩ := owns_block h k e
  rw [h3] at hk
  simp only [Option.some.injEq, Obj.cells.injEq] at hk
  exact absurd hk.2.1 (by decide)
end Go.Proofs.YtplnojapnaaakaaGreatDoor

/- What vellumref04.Cells answers of embeds, and vellumref04.Newlines. -/
namespace Go.Proofs.YtplnojapnaaakaaGreatDoor
open Go Go.RowKit Go.Lib
set_option linter.unusedVariables false
set_option maxHeartbeats 2000000 in
set_option maxRecDepth 100000 in
theorem refCells_emb (o : Op5) (s : Value) (w : World) (hR : RN w s o.A) (hF : Fit o) (hk : o.k = 2) :
    Calls Tryz.prog 117 #[opV o s] w fun r w' => ∃ v' D, r = .returned v' ∧ OwnC w' w.heap.size v' D ∧ AreO w' w.heap.size D (cellsOf o) ∧ Below w.heap.size w w' := by
  have b0 := (Below.refl w.heap.size w).alloc (Nat.le_refl _) (.cells (opC o s) 33)
  have HA : Hid (∀ W, Below w.heap.size w W → Calls Tryz.prog 139 #[s] W fun r w' => ∃ v', r = .returned v' ∧ OwnA w' W.heap.size v' o.A ∧ Below W.heap.size W w') := fun W hW => copied_any s o.A W (hR.below hW) (by have := hF.n; omega)
  have HE : Hid (cellsOf o = [(-1, o.t, o.v, o.A)]) := by show _ = _; unfold cellsOf; rw [if_neg (by omega)]
  have D0 := BoxO.new w o s
  obtain ⟨C, hC⟩ : ∃ C, cellsOf o = C := ⟨_, rfl⟩
  rw [hC] at HE ⊢
  clear hC hR hF
  obtain ⟨k, t, ⟨x, z, u⟩, c, A⟩ := o
  obtain ⟨d0, d1, d2, d3, d4, d5, d6⟩ := D0
  simp only at hk HA HE d0 d1 d2 d3 d4 d5 d6
  simp only [opC] at b0 d0 d1 d2 d3 d4 d5 d6
  subst hk
  obtain ⟨W1, hW1⟩ : ∃ W, W = w.alloc (.cells #[.int .i64 2, .string t, .int .i64 x, .int .i64 z, .string u, .int .i64 c, s] 33) := ⟨_, rfl⟩
  rw [← hW1] at b0 d0 d1 d2 d3 d4 d5 d6
  go_enter Tryz.func117, Tryz.ntmps117
  go_upto_region 1 with fail
  rw [← hW1]
  clear hW1
  go_wp2_with fail
  have b1 : Below w.heap.size w W1.drew := b0.drew
  have cA := HA.out W1.drew b1
  have hz1 : w.heap.size ≤ W1.drew.heap.size := b1.size
  have HU : Hid (∀ w', Below W1.drew.heap.size W1.drew w' → w'.cell? ⟨w.heap.size, 1, none⟩ = some (.string t) ∧ w'.cell? ⟨w.heap.size, 2, none⟩ = some (.int .i64 x) ∧ w'.cell? ⟨w.heap.size, 3, none⟩ = some (.int .i64 z) ∧ w'.cell? ⟨w.heap.size, 4, none⟩ = some (.string u) ∧ w'.cell? ⟨w.heap.size, 6, none⟩ = some s) := fun w' hb => ⟨(hb.cell (lt_of_cell (w := W1.drew) d1)).trans d1, (hb.cell (lt_of_cell (w := W1.drew) d2)).trans d2, (hb.cell (lt_of_cell (w := W1.drew) d3)).trans d3, (hb.cell (lt_of_cell (w := W1.drew) d4)).trans d4, (hb.cell (lt_of_cell (w := W1.drew) d6)).trans d6⟩
  have M1 := HU.out W1.drew (Below.refl _ _)
  go_region_held3 (fun w' => (w'.cell? ⟨w.heap.size, 1, none⟩ = some (.string t) ∧ w'.cell? ⟨w.heap.size, 2, none⟩ = some (.int .i64 x) ∧ w'.cell? ⟨w.heap.size, 3, none⟩ = some (.int .i64 z) ∧ w'.cell? ⟨w.heap.size, 4, none⟩ = some (.string u) ∧ w'.cell? ⟨w.heap.size, 6, none⟩ = some s) ∧ Below w.heap.size w w')
    (first | exact ⟨by with_reducible first | assumption | exact M1 | exact MA _, by with_reducible first | assumption | exact b1 | exact B5 _⟩)
    (first | (go_at_call 139; refine cA.mono ?_; rintro r w5 ⟨v5, rfl, o5, h5⟩; obtain ⟨p5, c5, rfl⟩ := own_slice o5; have MM := HU.out w5 h5; have MA := fun o => HU.out (w5.alloc o) (h5.alloc h5.size o); have b5 := b1.trans (h5.mono hz1); have B5 := fun o => b5.alloc b5.size o; have O5 : Hid (OwnA w5 W1.drew.heap.size (.slice p5 A.length c5) A) := o5; clear o5 cA))
  go_wp2_with fail
  go_ret
  refine ⟨_, [(-1, t, (x, z, u), p5, A.length, c5)], rfl, own_oneC w5 w.heap.size b5.size (-1, t, (x, z, u), p5, A.length, c5), ?_, B5 _⟩
  rw [HE.out]
  exact .cons ⟨rfl, rfl, rfl, own_weaken (owns_below O5.out ((Below.refl _ _).alloc (Nat.le_refl _) _)) hz1⟩ .nil

theorem refCells_any (o : Op5) (s : Value) (w : World) (hR : RN w s o.A) (hF : Fit o) (hO : Ins o) :
    Calls Tryz.prog 117 #[opV o s] w fun r w' => ∃ v' D, r = .returned v' ∧ OwnC w' w.heap.size v' D ∧ AreO w' w.heap.size D (cellsOf o) ∧ Below w.heap.size w w' := by
  rcases hO.kind with ⟨h, _⟩ | ⟨h, _⟩
  · exact refCells_text o s w hR hF hO h
  · exact refCells_emb o s w hR hF h

end Go.Proofs.YtplnojapnaaakaaGreatDoor

/- Cells one by one, as plain data: their error, the operation that inserts one. -/
namespace Go.Proofs.YtplnojapnaaakaaGreatDoor
open Go Go.RowKit Go.Lib
set_option linter.unusedVariables false
theorem encU_eq {r : Nat} (h : scal r) : Utf8.encode (r : Int) = ⟨(enc r).toArray⟩ := by
  have hv : Utf8.valid (r : Int) = true := by
    unfold Utf8.valid
    unfold scal at h
    rcases h with h | h
    · have h1 : (0 : Int) ≤ r := by omega
      have h2 : (r : Int) < 55296 := by omega
      simp [h1, h2]
    · have h1 : (57344 : Int) ≤ r := by omega
      have h2 : (r : Int) ≤ 1114111 := by omega
      simp [h1, h2]
  unfold Utf8.encode
  simp only [hv, if_true, Int.toNat_natCast]
  by_cases h1 : r < 128
  · rw [if_pos h1, enc_one h1]; simp
  rw [if_neg h1]
  by_cases h2 : r < 2048
  · rw [if_pos h2, enc_two (by omega) h2]
    have e1 : (192 + (r : Int) / 64).toNat = 192 + r / 64 := by omega
    have e2 : (128 + (r : Int) % 64).toNat = 128 + r % 64 := by omega
    rw [e1, e2]
  rw [if_neg h2]
  by_cases h3 : r < 65536
  · rw [if_pos h3, enc_three (by omega) h3 h]
    have e1 : (224 + (r : Int) / 4096).toNat = 224 + r / 4096 := by omega
    have e2 : (128 + (r : Int) / 64 % 64).toNat = 128 + r / 64 % 64 := by omega
    have e3 : (128 + (r : Int) % 64).toNat = 128 + r % 64 := by omega
    rw [e1, e2, e3]
  · rw [if_neg h3, enc_four (by omega) (by unfold scal at h; omega)]
    have e1 : (240 + (r : Int) / 262144).toNat = 240 + r / 262144 := by omega
    have e2 : (128 + (r : Int) / 4096 % 64).toNat = 128 + r / 4096 % 64 := by omega
    have e3 : (128 + (r : Int) / 64 % 64).toNat = 128 + r / 64 % 64 := by omega
    have e4 : (128 + (r : Int) % 64).toNat = 128 + r % 64 := by omega
    rw [e1, e2, e3, e4]

/-- What no operation can say. -/
def badC (c : C5) : Prop := c.1 ≠ -1 ∧ (¬ isScal c.1 ∨ c.2.1 ≠ ⟨#[]⟩ ∨ c.2.2.1 ≠ z0)
instance (z : Int) : Decidable (isScal z) := by unfold isScal; infer_instance
instance (c : C5) : Decidable (badC c) := by unfold badC; infer_instance
/-- The error's number of a cell. -/
def celE (c : C5) : Nat := if badC c then 5 else opE (opOf c)
theorem opOf_A (c : C5) : (opOf c).A = c.2.2.2 := by unfold opOf; split <;> rfl
theorem scal_of {z : Int} (h : isScal z) : ∃ r : Nat, z = (r : Int) ∧ scal r := by
  unfold isScal at h
  refine ⟨z.toNat, by omega, ?_⟩
  unfold scal; omega
/-- A scalar's operation. -/
theorem opOf_scal {r : Nat} (h : scal r) (A : List A2) : opOf ((r : Int), ⟨#[]⟩, z0, A) = ⟨1, ⟨(enc r).toArray⟩, z0, 0, A⟩ := by
  unfold opOf
  rw [if_neg (by simp only; omega)]
  simp
theorem enc_size {r : Nat} (h : scal r) : (⟨(enc r).toArray⟩ : ByteArray).size = (enc r).length := by simp [ByteArray.size]
theorem enc_brk {r : Nat} (h : scal r) : brk (⟨(enc r).toArray⟩ : ByteArray).data.toList = (⟨(enc r).toArray⟩ : ByteArray).size := by
  obtain ⟨s1, s2⟩ := scs_of (rs := [r]) (fun x hx => by rw [List.mem_singleton.1 hx]; exact h)
  have e2 : encs [r] = enc r := by simp [encs]
  rw [e2] at s1 s2
  show brk (enc r) = _
  rw [s2, enc_size h]
theorem opE_scal {r : Nat} (h : scal r) (A : List A2) : opE ⟨1, ⟨(enc r).toArray⟩, z0, 0, A⟩ = listE false none A := by
  have hp := enc_pos h
  have hne : (⟨(enc r).toArray⟩ : ByteArray).toList.isEmpty = false := size_isEmp (by rw [enc_size h]; exact hp.1)
  have hb := enc_brk h
  unfold opE
  rw [if_pos (Or.inl rfl)]
  unfold insE
  have hf : fldE ⟨1, ⟨(enc r).toArray⟩, z0, 0, A⟩ = 0 := by
    unfold fldE
    rw [if_neg (by simp), if_neg (by simp only; rintro (h | ⟨_, h | h⟩); exact absurd rfl h; (rw [hne] at h; cases h); exact h rfl), if_neg (by simp)]
  rw [hf]
  simp only [ne_eq, not_true_eq_false, if_false]
  rw [if_neg (by simpa using hb), if_neg (by simp [chk_z0])]
theorem celE_bad {c : C5} (h : badC c) : celE c = 5 := if_pos h
theorem celE_op {c : C5} (h : ¬ badC c) : celE c = opE (opOf c) := if_neg h
/-- Good cells are those without an error. -/
theorem good_iff {c : C5} : celE c = 0 ↔ GoodC c := by
  obtain ⟨k, t, v, A⟩ := c
  by_cases hb : badC (k, t, v, A)
  · rw [celE_bad hb]
    refine ⟨fun h => (by cases h), fun h => ?_⟩
    obtain ⟨h1, h2⟩ := hb
    rcases h.1 with ⟨h3, _⟩ | ⟨r, h3, h4, h5, h6⟩
    · exact absurd h3 h1
    · simp only at h3 h5 h6
      rcases h2 with h2 | h2 | h2
      · exfalso; apply h2; simp only [h3]; unfold isScal; unfold scal at h4; omega
      · exact absurd h5 h2
      · exact absurd h6 h2
  · rw [celE_op hb]
    by_cases hk : k = -1
    · subst hk
      have e : opOf (-1, t, v, A) = ⟨2, t, v, 0, A⟩ := rfl
      rw [e]
      constructor
      · intro h
        have hi := ins_of (o := ⟨2, t, v, 0, A⟩) (by unfold opE at h; rwa [if_pos (Or.inr rfl)] at h)
        exact ⟨Or.inl ⟨rfl, hi.full, (hi.kind.resolve_left (by simp)).2, hi.utf, hi.val⟩, hi.set⟩
      · rintro ⟨h, hs⟩
        rcases h with ⟨_, h1, h2, h3, h4⟩ | ⟨r, h1, _⟩
        · exact opE_12 ⟨Or.inr ⟨rfl, h2⟩, h1, rfl, h3, h4, hs⟩ (Or.inr rfl)
        · simp only at h1; omega
    · have h1 : isScal k ∧ t = ⟨#[]⟩ ∧ v = z0 := by
        unfold badC at hb
        simp only [ne_eq, not_and, not_or, Decidable.not_not] at hb
        exact hb hk
      obtain ⟨h1, rfl, rfl⟩ := h1
      obtain ⟨r, rfl, hr⟩ := scal_of h1
      rw [opOf_scal hr, opE_scal hr]
      constructor
      · intro h; exact ⟨Or.inr ⟨r, rfl, hr, rfl, rfl⟩, h⟩
      · intro h; exact h.2
end Go.Proofs.YtplnojapnaaakaaGreatDoor

/- cells.Like, cells.Same; vellumref09.Like, vellumref09.Same. -/
namespace Go.Proofs.YtplnojapnaaakaaGreatDoor
open Go Go.RowKit Go.Lib
set_option linter.unusedVariables false
abbrev ceA (e : C5) (s : Value) : Array Value := #[.int .i32 e.1, .string e.2.1, .int .i64 e.2.2.1.1, .int .i64 e.2.2.1.2.1, .string e.2.2.1.2.2, s]
abbrev ceP (e : C5) (s : Value) : Value := .agg (ceA e s)
end Go.Proofs.YtplnojapnaaakaaGreatDoor

/- vellumlaw08: fixed answers true. -/
namespace Go.Proofs.YtplnojapnaaakaaGreatDoor
open Go Go.RowKit Go.Lib
set_option linter.unusedVariables false
/-- The errors that the laws ask for. -/
def IR8 : List Nat := 11 :: IxO
theorem ir8 {I : List Nat} (h : ∀ i ∈ IR8, i ∈ I) : (∀ i ∈ IxO, i ∈ I) ∧ 11 ∈ I := ⟨fun i hi => h i (List.mem_cons_of_mem _ hi), h 11 (List.mem_cons_self ..)⟩
end Go.Proofs.YtplnojapnaaakaaGreatDoor

/- The document's answer: cells of inserts, List. -/
namespace Go.Proofs.YtplnojapnaaakaaGreatDoor
open Go Go.RowKit Go.Lib
set_option linter.unusedVariables false
theorem cellsL_snoc (E : List Op5) (o : Op5) : cellsL (E ++ [o]) = cellsL E ++ cellsOf o := by unfold cellsL; rw [List.flatMap_append]; simp
theorem cellsL_take {E : List Op5} {k : Nat} {o : Op5} (h : E[k]? = some o) : cellsL (E.take (k + 1)) = cellsL (E.take k) ++ cellsOf o := by
  rw [List.take_add_one, h, Option.toList_some, cellsL_snoc]
theorem cellsL_len_take (E : List Op5) (k : Nat) : (cellsL (E.take k)).length ≤ (cellsL E).length := by
  have : cellsL E = cellsL (E.take k) ++ cellsL (E.drop k) := by unfold cellsL; rw [← List.flatMap_append, List.take_append_drop]
  rw [this, List.length_append]; omega
end Go.Proofs.YtplnojapnaaakaaGreatDoor

/- The document's Cells of layer 10. -/
namespace Go.Proofs.YtplnojapnaaakaaGreatDoor
open Go Go.RowKit Go.Lib
set_option linter.unusedVariables false
set_option maxHeartbeats 4000000 in
set_option maxRecDepth 100000 in
theorem cells10_any (v : Value) (E : List Op5) (w : World) (hv : ReO w v E) (hI : ∀ o ∈ E, Ins o) (hF : ∀ o ∈ E, Fit o) (hl : E.length ≤ 4194304) (hc : (cellsL E).length ≤ 16777216) :
    Calls Tryz.prog 82 #[v] w fun r w' => ∃ v', r = .returned v' ∧ (∃ D, OwnC w' w.heap.size v' D ∧ AreO w' w.heap.size D (cellsL E)) ∧ Below w.heap.size w w' := by
  obtain ⟨DO, ⟨p, cap, rfl, hcap, hnz, hat⟩, hre⟩ := hv
  have hDE := forall2_len hre
  obtain ⟨m, hm⟩ : ∃ m, DO.length = m := ⟨_, rfl⟩
  rw [hm] at hcap ⊢
  have hlm : m ≤ 4194304 := by rw [← hm, hDE]; exact hl
  have HM : Hid (DO.length = m ∧ E.length = m) := ⟨hm, by rw [← hDE, hm]⟩
  have HA : Hid (∀ (j : Nat) (d : OV), DO[j]? = some d → ∃ b off, p = some ⟨b, off, none⟩ ∧ OpAt w b (off + j * 7) d) := hat
  have HE : Hid (ReD w DO E ∧ (∀ o ∈ E, Ins o) ∧ (∀ o ∈ E, Fit o) ∧ (cellsL E).length ≤ 16777216) := ⟨hre, hI, hF, hc⟩
  clear hm hDE hl hat hre hI hF hc hnz
  have o0 := own_emptyC w w.heap.size (Nat.le_refl _)
  have b0 := (Below.refl w.heap.size w).alloc (Nat.le_refl _) (.cells #[] 175)
  obtain ⟨W0, hW0⟩ : ∃ W, W = w.alloc (.cells #[] 175) := ⟨_, rfl⟩
  obtain ⟨v0, hv0⟩ : ∃ v0 : Value, v0 = .slice (some ⟨w.heap.size, 0, none⟩) 0 0 := ⟨_, rfl⟩
  rw [← hW0, ← hv0] at o0
  rw [← hW0] at b0
  go_enter Tryz.func82, Tryz.ntmps82
  go_wp2
  rw [← hW0, ← hv0]
  clear hW0 hv0
  go_loopw [3, 9] (fun o i wr => ∃ (k : Nat) (D : List CV), k ≤ m ∧ i = .int .i64 k ∧ OwnC wr w.heap.size o D ∧ Hid (AreO wr w.heap.size D (cellsL (E.take k))) ∧ Below w.heap.size w wr) (fun _ i _ => m - (RowKit.intOf i).toNat)
  case atStart => exact ⟨0, [], Nat.zero_le _, rfl, o0, by rw [List.take_zero]; exact .nil, b0⟩
  case round =>
    clear o0 b0
    obtain ⟨k, D, hk, rfl, hown, HD, hbw⟩ := hrel
    by_cases hlt : k < m
    · have hltI : (k : Int) < m := by omega
      obtain ⟨d, hd⟩ : ∃ d, DO[k]? = some d := ⟨_, List.getElem?_eq_getElem (by rw [HM.out.1]; exact hlt)⟩
      obtain ⟨e, he, hr⟩ := forall2_get HE.out.1 k d hd
      obtain ⟨b, off, rfl, hin⟩ := HA.out k d hd
      obtain ⟨c0, c1, c2, c3, c4, c5, c6⟩ := hin.below hbw
      have hem := List.mem_of_getElem? he
      have hO := HE.out.2.1 e hem
      have hFe := HE.out.2.2.1 e hem
      have hcl := cellsL_len_take E (k + 1)
      rw [cellsL_take he, List.length_append] at hcl
      have hDl := forall2_len HD.out
      have HT : Hid (cellsL (E.take (k + 1)) = cellsL (E.take k) ++ cellsOf e ∧ D.length + (cellsOf e).length ≤ 16777216) := ⟨cellsL_take he, by have := HE.out.2.2.2; omega⟩
      obtain ⟨h1, h2, h3, h4, h5⟩ := hr
      have bA := hbw.alloc hbw.size (.cells (opC e (slV d.2.2.2.2)) 33)
      have b1 : Below wr.heap.size wr (wr.alloc (.cells (opC e (slV d.2.2.2.2)) 33)) := (Below.refl _ _).alloc (Nat.le_refl _) _
      have cC := refCells_any e (slV d.2.2.2.2) (wr.alloc (.cells (opC e (slV d.2.2.2.2)) 33)) ((h5.below hbw).below b1) hFe hO
      obtain ⟨dk, dt, ⟨dx, dn, du⟩, dc, sp, sl, sc⟩ := d
      simp only [slV] at c0 c1 c2 c3 c4 c5 c6 h1 h2 h3 h4 bA b1 cC
      have HO1 : Hid (OwnC wr w.heap.size u3 D) := hown
      clear hown hin hd he hem hDl hcl h5 hO hFe
      obtain ⟨ek, et, ⟨ex, en, eu⟩, ec, eA⟩ := e
      simp only [Prod.mk.injEq] at h1 h2 h3 h4
      obtain ⟨h3, h5, h6⟩ := h3
      subst h1; subst h2; subst h3; subst h4; subst h5; subst h6
      simp only [opC] at cC bA b1
      have HB : Hid (Below wr.heap.size wr (wr.alloc (.cells #[.int .i64 dk, .string dt, .int .i64 dx, .int .i64 dn, .string du, .int .i64 dc, .slice sp sl sc] 33)) ∧ Below w.heap.size w wr) := ⟨b1, hbw⟩
      clear b1 hbw
      go_wp2_with fail
      refine cC.mono ?_; rintro r w5 ⟨vc, DC, rfl, oc, ac, b5⟩
      have bw5 := HB.out.1.trans (b5.mono HB.out.1.size)
      have h05 : Below w.heap.size w w5 := bA.trans (b5.mono bA.size)
      have HR : Hid (RowC w5 vc DC ∧ OwnC w5 w.heap.size u3 D) := ⟨own_rowC oc, owns_below HO1.out bw5⟩
      have hlC := forall2_len ac
      have hlen : D.length + DC.length ≤ 33554432 := by have := HT.out.2; omega
      have hge : Hid (∀ j, u3.ownBlock = some j → w.heap.size ≤ j) := fun j hj => (owns_block HO1.out j hj).1
      have hs5 : w.heap.size ≤ w5.heap.size := h05.size
      have HX : Hid (AreO w5 w.heap.size (D ++ DC) (cellsL (E.take (k + 1)))) := by
        show AreO _ _ _ _
        rw [HT.out.1]
        exact forall2_append (HD.out.keep (keepA_below bw5)) (AreO.weaken ac (by rw [World.size_alloc]; have := HB.out.2.size; omega))
      clear cC oc ac b5 bw5 HD HT HB bA c0 c1 c2 c3 c4 c5 c6 hlC
      go_wp2_with (at_builtin; refine wpList_append_cells rfl (.tmp 13) (.tmp 15) rfl w.heap.size u3 D rfl HR.out.2 vc DC rfl HR.out.1 hlen hs5 ?_; intro v7 w7 own7 gr7)
      have b7 : Below w.heap.size w w7 := h05.grown gr7 hs5 (fun j hj => hge.out j hj)
      have HX7 : Hid (AreO w7 w.heap.size (D ++ DC) (cellsL (E.take (k + 1)))) := HX.out.keep (keepA_grown HR.out.2 gr7)
      clear HX HR gr7 h05
      go_roundw
      case rel => exact ⟨k + 1, D ++ DC, by omega, by go_num, own7, HX7, b7⟩
      case measure => simp [RowKit.intOf]; omega
    · have hltI : ¬ (k : Int) < m := by omega
      have hall : E.take k = E := List.take_of_length_le (by rw [HM.out.2]; omega)
      rw [hall] at HD
      have HO : Hid (OwnC wr w.heap.size u3 D) := hown
      clear hown hall
      go_wp2
      go_ret
      exact ⟨_, rfl, ⟨D, HO.out, HD.out⟩, hbw⟩
end Go.Proofs.YtplnojapnaaakaaGreatDoor

/- What vellumref10.Done answers: the cells behind a delta, with the places that they had. -/
namespace Go.Proofs.YtplnojapnaaakaaGreatDoor
open Go Go.RowKit Go.Lib
set_option linter.unusedVariables false
theorem wpList_append_zz {w : World} {ops : Array Oper} {rest : List Oper} {o : Oper} {a : Act} {Q : Exit → Act → World → Prop} (hgd : o.guard = none) (s x : Operand)
    (ho : o.op = .call { callee := .builtin .append, args := #[s, x], argTypes := #[61, 61] })
    (base : Nat) (v : Value) (P : List Value) (hs : a.eval s = v) (hown : OwnZ w base v P)
    (b c : Nat) (u : Value) (hx : a.eval x = .slice (some ⟨b, 0, none⟩) 1 c) (hu : w.cell? ⟨b, 0, none⟩ = some u) (h1 : u.oneCell' = true)
    (h63 : P.length ≤ 33554432) (hbase : base ≤ w.heap.size)
    (h : ∀ v' w', OwnZ w' base v' (P ++ [u]) → w.grownBy w' v.ownBlock → wpList Tryz.prog ops Q rest (a.put o.dst v') w') : wpList Tryz.prog ops Q (o :: rest) a w := by
  obtain ⟨i, z, hi, hz, hz1, hz2, hz3⟩ := infoZi
  exact wpList_append_own _ hgd s x _ ho base 3 i z 1 8 Tryz.underlying61 hi hz hz1 hz2 hz3 (by decide) v P.length P hs hown ⟨b, 0, none⟩ 1 c [u] hx rfl (by intro j y hj; cases j with | zero => (simp at hj; subst hj; exact hu) | succ j => simp at hj) (fun y hy => by rw [List.mem_singleton.1 hy]; exact h1) (by unfold maxLen; omega) (by omega) hbase (fun v' w' h1 h2 _ => h v' w' (by show w'.ownsRow _ _ _ _ _ _; rw [List.length_append]; exact h1) h2)
theorem own_emptyZ (w : World) (B : Nat) (hB : B ≤ w.heap.size) : OwnZ (w.alloc (.cells #[] 3)) B (.slice (some ⟨w.heap.size, 0, none⟩) 0 0) [] :=
  ⟨rfl, Or.inr ⟨w.heap.size, 0, #[], rfl, hB, by show (w.heap.push _)[w.heap.size]? = _; simp, Nat.le_refl _, Nat.zero_le _, rfl, rfl⟩⟩
/-- Cells with the places that they had, in two rows of the call's own. -/
structure DoS (w : World) (B0 : Nat) (o f : Value) (D : List CV) (L : List (C5 × Int)) (A : World) : Prop where
  own : OwnC A w.heap.size o D
  are : AreO A B0 D (L.map Prod.fst)
  zs : OwnZ A w.heap.size f (L.map fun x => .int .i64 x.2)
  below : Below w.heap.size w A
theorem DoS.len {w A : World} {B0 : Nat} {o f : Value} {D : List CV} {L : List (C5 × Int)} (h : DoS w B0 o f D L A) : D.length = L.length := by have := forall2_len h.are; rwa [List.length_map] at this
theorem DoS.mono {w A A' : World} {B0 : Nat} {o f : Value} {D : List CV} {L : List (C5 × Int)} (h : DoS w B0 o f D L A) (b : Below A.heap.size A A') : DoS w B0 o f D L A' :=
  ⟨owns_below h.own b, h.are.keep (keepA_below b), owns_below h.zs b, h.below.trans (b.mono h.below.size)⟩
/-- A cell of a cell's list kept, another list laid. -/
theorem DoS.two {w A W1 w7 w9 : World} {B0 : Nat} {o f v7 v9 : Value} {D : List CV} {L : List (C5 × Int)} (h : DoS w B0 o f D L A) (b1 : Below A.heap.size A W1) {d : CV} {e : C5} {z : Int} {ob : Obj}
    (hd : d.1 = e.1 ∧ d.2.1 = e.2.1 ∧ d.2.2.1 = e.2.2.1 ∧ OwnA W1 B0 (slV d.2.2.2) e.2.2.2)
    (own7 : OwnC w7 w.heap.size v7 (D ++ [d])) (gr7 : W1.grownBy w7 o.ownBlock) (own9 : OwnZ w9 w.heap.size v9 ((L.map fun x => .int .i64 x.2) ++ [.int .i64 z])) (gr9 : (w7.alloc ob).grownBy w9 f.ownBlock) :
    DoS w B0 v7 v9 (D ++ [d]) (L ++ [(e, z)]) w9 ∧ KeepT 33 A w9 := by
  have h1 := h.mono b1
  have k7 := keepT_grown (e := 33) h1.own gr7 (by decide)
  have z7 : OwnZ w7 w.heap.size f (L.map fun x => .int .i64 x.2) := keepT_own h1.zs (keepT_grown h1.own gr7 (by decide))
  have ba : Below w7.heap.size w7 (w7.alloc ob) := (Below.refl _ _).alloc (Nat.le_refl _) _
  have z8 := owns_below z7 ba
  have a7 : KeepA W1 w7 := keepA_grown h1.own gr7
  have a9 : KeepA (w7.alloc ob) w9 := fun k cur hk => keepT_grown (e := 154) z8 gr9 (by decide) k cur hk
  have c9 : OwnC w9 w.heap.size v7 (D ++ [d]) := keepT_own (owns_below own7 ba) (keepT_grown z8 gr9 (by decide))
  have ka : KeepA W1 w9 := (a7.trans (keepA_below ba)).trans a9
  have kge : ∀ k, o.ownBlock = some k → w.heap.size ≤ k := fun k hk => (owns_block h.own k hk).1
  have fge : ∀ k, f.ownBlock = some k → w.heap.size ≤ k := fun k hk => (owns_block h.zs k hk).1
  have bb7 : Below w.heap.size w w7 := h1.below.grown gr7 h1.below.size kge
  have bb8 := bb7.trans (ba.mono bb7.size)
  refine ⟨⟨c9, ?_, by rw [List.map_append]; exact own9, bb8.grown gr9 bb8.size fge⟩, fun k cur hk => ?_⟩
  · rw [List.map_append]
    exact forall2_append (h1.are.keep ka) (.cons ⟨hd.1, hd.2.1, hd.2.2.1, keepA_own hd.2.2.2 ka⟩ .nil)
  · have e1 := b1.block k (Array.getElem?_eq_some_iff.1 hk).1
    have e7 := k7 k cur (e1.trans hk)
    have e8 := ba.block k (Array.getElem?_eq_some_iff.1 ((e7.trans e1).trans hk)).1
    have e9 := keepT_grown (e := 33) z8 gr9 (by decide) k cur (((e8.trans e7).trans e1).trans hk)
    exact ((e9.trans e8).trans e7).trans e1
/-- append(own, a row of cells), with where the new slice lies. -/
theorem wpList_append_cellsx {w : World} {ops : Array Oper} {rest : List Oper} {o : Oper} {a : Act} {Q : Exit → Act → World → Prop} (hgd : o.guard = none) (s x : Operand)
    (ho : o.op = .call { callee := .builtin .append, args := #[s, x], argTypes := #[143, 143] })
    (base : Nat) (v : Value) (L : List CV) (hs : a.eval s = v) (hown : OwnC w base v L)
    (b : Nat) (d : CV) (hx : a.eval x = .slice (some ⟨b, 0, none⟩) 1 1) (hM : w.heap[b]? = some (.cells (ceC d) 175 (0, 0)))
    (h63 : L.length + 1 ≤ 33554432) (hbase : base ≤ w.heap.size)
    (h : ∀ v' w', OwnC w' base v' (L ++ [d]) → w.grownBy w' v.ownBlock → (v'.ownBlock = v.ownBlock ∨ v'.ownBlock = some w.heap.size) → wpList Tryz.prog ops Q rest (a.put o.dst v') w') : wpList Tryz.prog ops Q (o :: rest) a w := by
  obtain ⟨i, z, hi, hz, hz1, hz2, hz3⟩ := infoCe
  refine wpList_append_own_at _ hgd s x _ ho base 175 i z 6 80 Tryz.underlying143 hi hz hz1 hz2 hz3 (by decide) v L.length (cellsC L) hs hown ⟨b, 0, none⟩ 1 1 (cellsC [d]) hx (by rw [cellsC_len]; rfl) (fun j y hj => ?_) (cellsC_one _) (by unfold maxLen; omega) (by omega) hbase (fun v' w' h1 h2 _ h4 => ?_)
  · rw [Addr.add_lit, Nat.zero_add, cell_of_heap hM, List.getElem?_toArray]
    exact hj
  · refine h v' w' ?_ h2 h4
    show w'.ownsRow _ _ _ _ _ _
    rw [cellsC_append, List.length_append]
    exact h1
theorem DoS.mid {w A W1 w7 : World} {B0 : Nat} {o f : Value} {D : List CV} {L : List (C5 × Int)} (h : DoS w B0 o f D L A) (b1 : Below A.heap.size A W1) (gr7 : W1.grownBy w7 o.ownBlock) (ob : Obj) :
    OwnZ (w7.alloc ob) w.heap.size f (L.map fun x => .int .i64 x.2) ∧ w.heap.size ≤ (w7.alloc ob).heap.size := by
  have h1 := h.mono b1
  have z7 : OwnZ w7 w.heap.size f (L.map fun x => .int .i64 x.2) := keepT_own h1.zs (keepT_grown h1.own gr7 (by decide))
  exact ⟨owns_below z7 ((Below.refl _ _).alloc (Nat.le_refl _) _), by rw [World.size_alloc]; have := h1.below.size; have := gr7.size; omega⟩
theorem DoS.top {w A W1 : World} {B0 : Nat} {o f : Value} {D : List CV} {L : List (C5 × Int)} (h : DoS w B0 o f D L A) (b1 : Below A.heap.size A W1) : OwnC W1 w.heap.size o D ∧ w.heap.size ≤ W1.heap.size := ⟨owns_below h.own b1, (h.mono b1).below.size⟩
theorem units_take {F : List Op5} {k : Nat} {e : Op5} (he : F[k]? = some e) : units (F.take (k + 1)) = units (F.take k) ++ unitsO e := by
  rw [List.take_add_one, he, Option.toList_some, units_append]
  show _ ++ (unitsO e ++ []) = _
  rw [List.append_nil]
theorem base_take_le (F : List Op5) (k : Nat) : baseU (units (F.take k)) ≤ baseU (units F) := by
  have e : units F = units (F.take k) ++ units (F.drop k) := by rw [← units_append, List.take_append_drop]
  rw [e, baseU_append]; omega
theorem res_take_le (F : List Op5) (k : Nat) : resU (units (F.take k)) ≤ resU (units F) := by
  have e : units F = units (F.take k) ++ units (F.drop k) := by rw [← units_append, List.take_append_drop]
  rw [e, resU_append]; omega
/-- What the document's Done may be asked of. -/
structure DonR (cs : List C5) (F : List Op5) (KA KP : Nat) : Prop where
  wel : ∀ o ∈ F, Wel o
  fit : ∀ o ∈ F, Fit o
  base : baseU (units F) ≤ cs.length
  set : SetC cs
  ka : ∀ c ∈ cs, c.2.2.2.length ≤ KA
  kp : ∀ o ∈ F, o.A.length ≤ KP
  k : KP + KA ≤ 1048576
  lc : cs.length ≤ 16777216
  lr : resU (units F) ≤ 16777216
  lf : F.length ≤ 4194304
end Go.Proofs.YtplnojapnaaakaaGreatDoor

/- cells.Of of any list of cells. -/
namespace Go.Proofs.YtplnojapnaaakaaGreatDoor
open Go Go.RowKit Go.Lib
set_option linter.unusedVariables false
theorem not_bad {e : C5} (h : celE e = 0) : ¬ badC e := fun hb => by rw [celE_bad hb] at h; cases h
end Go.Proofs.YtplnojapnaaakaaGreatDoor

/- The document's op, Doc, Of, SameList of layer 9. -/
namespace Go.Proofs.YtplnojapnaaakaaGreatDoor
open Go Go.RowKit Go.Lib
set_option linter.unusedVariables false
instance instDecC5 : DecidableEq C5 := fun a b => by unfold C5 at a b; exact inferInstance
instance instDecLC5 : DecidableEq (List C5) := fun a b => by exact instDecidableEqList a b
theorem ce_of {w : World} {d : CV} {e : C5} (h : d.1 = e.1 ∧ d.2.1 = e.2.1 ∧ d.2.2.1 = e.2.2.1 ∧ RN w (slV d.2.2.2) e.2.2.2) : ceV d = ceP e (slV d.2.2.2) := by
  obtain ⟨dk, dt, dv, ds⟩ := d
  obtain ⟨x1, x2, x3, _⟩ := h
  simp only at x1 x2 x3
  subst x1; subst x2; subst x3; rfl
end Go.Proofs.YtplnojapnaaakaaGreatDoor

/- The document's Of and joined of layer 10. -/
namespace Go.Proofs.YtplnojapnaaakaaGreatDoor
open Go Go.RowKit Go.Lib
set_option linter.unusedVariables false
theorem keepA_block {w w' : World} {g : Nat} {cs : Array Value} {t : TypeId} (hg : w.heap[g]? = some (.cells cs t (0, 0))) (ht : t ≠ 154) (r : Row1 (.slice (some ⟨g, 0, none⟩) 0 0) w w') : KeepA w w' := fun k cur hk => by
  refine r.block k (Array.getElem?_eq_some_iff.1 hk).1 fun e => ?_
  simp only [Value.ownBlock, Option.some.injEq] at e
  subst e
  rw [hg] at hk
  simp only [Option.some.injEq, Obj.cells.injEq] at hk
  exact ht hk.2.1
theorem row1_set7 (w : World) (g : Nat) (v0 v1 v2 v3 v4 v5 v6 : Value) : Row1 (.slice (some ⟨g, 0, none⟩) 0 0) w (((((((w.setCell ⟨g, 0, none⟩ v0).setCell ⟨g, 1, none⟩ v1).setCell ⟨g, 2, none⟩ v2).setCell ⟨g, 3, none⟩ v3).setCell ⟨g, 4, none⟩ v4).setCell ⟨g, 5, none⟩ v5).setCell ⟨g, 6, none⟩ v6) :=
  (((((((Row1.of_below (Below.refl _ _)).setCell rfl _ _).setCell rfl _ _).setCell rfl _ _).setCell rfl _ _).setCell rfl _ _).setCell rfl _ _).setCell rfl _ _
set_option maxHeartbeats 2000000 in
set_option maxRecDepth 100000 in
theorem of10_any (e : C5) (s : Value) (w : World) (hb : ¬ badC e) (hR : RN w s e.2.2.2) (hn : e.2.2.2.length ≤ 2097152) :
    Calls Tryz.prog 118 #[ceP e s] w fun r w' => ∃ s', r = .returned (opV (opOf e) s') ∧ OwnA w' w.heap.size s' (opOf e).A ∧ Below w.heap.size w w' := by
  obtain ⟨p, cp, rfl, _⟩ := hR.row.val
  obtain ⟨k, t, ⟨x, n, u⟩, A⟩ := e
  simp only at hR hn ⊢
  have b0 := (((Below.refl w.heap.size w).alloc (Nat.le_refl _) (.cells (ceA (k, t, (x, n, u), A) (.slice p A.length cp)) 175)).alloc (by simp) (.cells #[.int .i64 0, .string ⟨#[]⟩, .int .i64 0, .int .i64 0, .string ⟨#[]⟩, .int .i64 0, .slice none 0 0] 33)).alloc (by simp <;> omega) (.cells #[] 154)
  have m0 : (((w.alloc (.cells (ceA (k, t, (x, n, u), A) (.slice p A.length cp)) 175)).alloc (.cells #[.int .i64 0, .string ⟨#[]⟩, .int .i64 0, .int .i64 0, .string ⟨#[]⟩, .int .i64 0, .slice none 0 0] 33)).alloc (.cells #[] 154)).heap[w.heap.size]? = some (.cells (ceA (k, t, (x, n, u), A) (.slice p A.length cp)) 175 (0, 0)) := by
    rw [Below.heap_alloc _ _ _ (by simp <;> omega), Below.heap_alloc _ _ _ (by simp)]; exact heap_alloc_new w _
  have m1 : (((w.alloc (.cells (ceA (k, t, (x, n, u), A) (.slice p A.length cp)) 175)).alloc (.cells #[.int .i64 0, .string ⟨#[]⟩, .int .i64 0, .int .i64 0, .string ⟨#[]⟩, .int .i64 0, .slice none 0 0] 33)).alloc (.cells #[] 154)).heap[w.heap.size + 1]? = some (.cells #[.int .i64 0, .string ⟨#[]⟩, .int .i64 0, .int .i64 0, .string ⟨#[]⟩, .int .i64 0, .slice none 0 0] 33 (0, 0)) := by
    rw [Below.heap_alloc _ _ _ (by simp)]
    have := heap_alloc_new (w.alloc (.cells (ceA (k, t, (x, n, u), A) (.slice p A.length cp)) 175)) (.cells #[.int .i64 0, .string ⟨#[]⟩, .int .i64 0, .int .i64 0, .string ⟨#[]⟩, .int .i64 0, .slice none 0 0] 33)
    rwa [World.size_alloc] at this
  have oE := own_empty' ((w.alloc (.cells (ceA (k, t, (x, n, u), A) (.slice p A.length cp)) 175)).alloc (.cells #[.int .i64 0, .string ⟨#[]⟩, .int .i64 0, .int .i64 0, .string ⟨#[]⟩, .int .i64 0, .slice none 0 0] 33)) w.heap.size (by simp <;> omega)
  rw [World.size_alloc, World.size_alloc] at oE
  have HH : Hid (RN (((w.alloc (.cells (ceA (k, t, (x, n, u), A) (.slice p A.length cp)) 175)).alloc (.cells #[.int .i64 0, .string ⟨#[]⟩, .int .i64 0, .int .i64 0, .string ⟨#[]⟩, .int .i64 0, .slice none 0 0] 33)).alloc (.cells #[] 154)) (.slice p A.length cp) A) := hR.below b0
  have HM : Hid _ := And.intro m0 m1
  have HB : Hid _ := b0
  have HO : Hid (OwnA (((w.alloc (.cells (ceA (k, t, (x, n, u), A) (.slice p A.length cp)) 175)).alloc (.cells #[.int .i64 0, .string ⟨#[]⟩, .int .i64 0, .int .i64 0, .string ⟨#[]⟩, .int .i64 0, .slice none 0 0] 33)).alloc (.cells #[] 154)) w.heap.size (.slice (some ⟨w.heap.size + 1 + 1, 0, none⟩) 0 0) []) := oE
  simp only [ceA] at HH HM HB HO
  have hA : (opOf (k, t, (x, n, u), A)).A = A := opOf_A _
  have fin : ∀ (w9 W : World) (v9 : Value), OwnA w9 w.heap.size v9 A → Below w.heap.size w w9 → w9.heap[w.heap.size + 1]? = some (.cells #[.int .i64 0, .string ⟨#[]⟩, .int .i64 0, .int .i64 0, .string ⟨#[]⟩, .int .i64 0, .slice none 0 0] 33 (0, 0)) → Row1 (.slice (some ⟨w.heap.size + 1, 0, none⟩) 0 0) w9 W → OwnA W w.heap.size v9 (opOf (k, t, (x, n, u), A)).A ∧ Below w.heap.size w W := fun w9 W v9 h1 h2 h3 h4 => by
    rw [hA]
    exact ⟨keepA_own h1 (keepA_block h3 (by decide) h4), h2.trans (h4.below h2.size (fun k hk => by simp only [Value.ownBlock, Option.some.injEq] at hk; omega))⟩
  have HFin := Hid.mk' fin
  clear hR b0 m0 m1 oE hA fin
  by_cases hk : k = -1
  · subst hk
    rw [show opOf (-1, t, (x, n, u), A) = ⟨2, t, (x, n, u), 0, A⟩ from rfl] at HFin ⊢
    clear hb
    go_enter Tryz.func118, Tryz.ntmps118
    go_wp2_with (at_builtin; refine wpList_append_row rfl (.tmp 4) (.tmp 6) rfl w.heap.size (.slice (some ⟨w.heap.size + 1 + 1, 0, none⟩) 0 0) [] rfl HO.out (.slice p A.length cp) A rfl HH.out.row HH.out.nz (by simpa using hn) HB.out.size ?_; intro v9 w9 own9 gr9; have b9 := Hid.mk' (HB.out.grown gr9 HB.out.size (fun j hj => by simp only [Value.ownBlock, Option.some.injEq] at hj; omega)); have q0 := (gr9.block w.heap.size (by simp <;> omega) (fun e => by simp only [Value.ownBlock, Option.some.injEq] at e; omega)).trans HM.out.1; have q1 := (gr9.block (w.heap.size + 1) (by simp <;> omega) (fun e => by simp only [Value.ownBlock, Option.some.injEq] at e; omega)).trans HM.out.2; have HQ := Hid.mk' q1; have OW := Hid.mk' own9; have c0 : w9.cell? ⟨w.heap.size, 0, none⟩ = some (.int .i32 (-1)) := (by rw [cell_of_heap q0]; rfl); have c1 : w9.cell? ⟨w.heap.size, 1, none⟩ = some (.string t) := (by rw [cell_of_heap q0]; rfl); have c2 : w9.cell? ⟨w.heap.size, 2, none⟩ = some (.int .i64 x) := (by rw [cell_of_heap q0]; rfl); have c3 : w9.cell? ⟨w.heap.size, 3, none⟩ = some (.int .i64 n) := (by rw [cell_of_heap q0]; rfl); have c4 : w9.cell? ⟨w.heap.size, 4, none⟩ = some (.string u) := (by rw [cell_of_heap q0]; rfl); have r0 : w9.cell? ⟨w.heap.size + 1, 0, none⟩ = some (.int .i64 0) := (by rw [cell_of_heap q1]; rfl); have r1 : w9.cell? ⟨w.heap.size + 1, 1, none⟩ = some (.string ⟨#[]⟩) := (by rw [cell_of_heap q1]; rfl); have r2 : w9.cell? ⟨w.heap.size + 1, 2, none⟩ = some (.int .i64 0) := (by rw [cell_of_heap q1]; rfl); have r3 : w9.cell? ⟨w.heap.size + 1, 3, none⟩ = some (.int .i64 0) := (by rw [cell_of_heap q1]; rfl); have r4 : w9.cell? ⟨w.heap.size + 1, 4, none⟩ = some (.string ⟨#[]⟩) := (by rw [cell_of_heap q1]; rfl); have r5 : w9.cell? ⟨w.heap.size + 1, 5, none⟩ = some (.int .i64 0) := (by rw [cell_of_heap q1]; rfl); have r6 : w9.cell? ⟨w.heap.size + 1, 6, none⟩ = some (.slice none 0 0) := (by rw [cell_of_heap q1]; rfl); have f0 := frozen_of_heap q1 0; have f1 := frozen_of_heap q1 1; have f2 := frozen_of_heap q1 2; have f3 := frozen_of_heap q1 3; have f4 := frozen_of_heap q1 4; have f5 := frozen_of_heap q1 5; have f6 := frozen_of_heap q1 6; obtain ⟨p9, c9, e9⟩ := own_slice own9; simp only [List.nil_append] at e9; subst e9; clear own9 gr9 q0 q1 HM HB HO HH)
    refine bodyPost_ret (v := opV ⟨2, t, (x, n, u), 0, A⟩ (.slice p9 A.length c9)) (by simp [results, Tryz.results118, go_sem, r0, r1, r2, r3, r4, r5, r6]) rfl ⟨_, rfl, HFin.out w9 _ _ (by simpa using OW.out) b9.out HQ.out ?_⟩
    exact row1_set7 _ _ _ _ _ _ _ _ _
  · have h1 : isScal k ∧ t = ⟨#[]⟩ ∧ ((x, n, u) : P3) = z0 := by
      unfold badC at hb
      simp only [ne_eq, not_and, not_or, Decidable.not_not] at hb
      exact hb hk
    obtain ⟨h1, rfl, h3⟩ := h1
    simp only [z0, Prod.mk.injEq] at h3
    obtain ⟨rfl, rfl, rfl⟩ := h3
    obtain ⟨r, rfl, hr⟩ := scal_of h1
    rw [show opOf ((r : Int), ⟨#[]⟩, (0, 0, ⟨#[]⟩), A) = ⟨1, ⟨(enc r).toArray⟩, z0, 0, A⟩ from opOf_scal hr A] at HFin ⊢
    have hr1 : ¬ ((r : Int) < 0) := by omega
    have henc := encU_eq hr
    obtain ⟨t0, ht0⟩ : ∃ t0, (⟨(enc r).toArray⟩ : ByteArray) = t0 := ⟨_, rfl⟩
    rw [ht0] at henc HFin ⊢
    clear hb h1 hr hk ht0
    go_enter Tryz.func118, Tryz.ntmps118
    go_wp2_with (at_builtin; refine wpList_append_row rfl (.tmp 4) (.tmp 6) rfl w.heap.size (.slice (some ⟨w.heap.size + 1 + 1, 0, none⟩) 0 0) [] rfl HO.out (.slice p A.length cp) A rfl HH.out.row HH.out.nz (by simpa using hn) HB.out.size ?_; intro v9 w9 own9 gr9; have b9 := Hid.mk' (HB.out.grown gr9 HB.out.size (fun j hj => by simp only [Value.ownBlock, Option.some.injEq] at hj; omega)); have q0 := (gr9.block w.heap.size (by simp <;> omega) (fun e => by simp only [Value.ownBlock, Option.some.injEq] at e; omega)).trans HM.out.1; have q1 := (gr9.block (w.heap.size + 1) (by simp <;> omega) (fun e => by simp only [Value.ownBlock, Option.some.injEq] at e; omega)).trans HM.out.2; have HQ := Hid.mk' q1; have OW := Hid.mk' own9; have c0 : w9.cell? ⟨w.heap.size, 0, none⟩ = some (.int .i32 r) := (by rw [cell_of_heap q0]; rfl); have r0 : w9.cell? ⟨w.heap.size + 1, 0, none⟩ = some (.int .i64 0) := (by rw [cell_of_heap q1]; rfl); have r1 : w9.cell? ⟨w.heap.size + 1, 1, none⟩ = some (.string ⟨#[]⟩) := (by rw [cell_of_heap q1]; rfl); have r2 : w9.cell? ⟨w.heap.size + 1, 2, none⟩ = some (.int .i64 0) := (by rw [cell_of_heap q1]; rfl); have r3 : w9.cell? ⟨w.heap.size + 1, 3, none⟩ = some (.int .i64 0) := (by rw [cell_of_heap q1]; rfl); have r4 : w9.cell? ⟨w.heap.size + 1, 4, none⟩ = some (.string ⟨#[]⟩) := (by rw [cell_of_heap q1]; rfl); have r5 : w9.cell? ⟨w.heap.size + 1, 5, none⟩ = some (.int .i64 0) := (by rw [cell_of_heap q1]; rfl); have r6 : w9.cell? ⟨w.heap.size + 1, 6, none⟩ = some (.slice none 0 0) := (by rw [cell_of_heap q1]; rfl); have f0 := frozen_of_heap q1 0; have f1 := frozen_of_heap q1 1; have f2 := frozen_of_heap q1 2; have f3 := frozen_of_heap q1 3; have f4 := frozen_of_heap q1 4; have f5 := frozen_of_heap q1 5; have f6 := frozen_of_heap q1 6; obtain ⟨p9, c9, e9⟩ := own_slice own9; simp only [List.nil_append] at e9; subst e9; clear own9 gr9 q0 q1 HM HB HO HH)
    refine bodyPost_ret (v := opV ⟨1, t0, z0, 0, A⟩ (.slice p9 A.length c9)) (by simp [results, Tryz.results118, go_sem, z0, r0, r1, r2, r3, r4, r5, r6]) rfl ⟨_, rfl, HFin.out w9 _ _ (by simpa using OW.out) b9.out HQ.out ?_⟩
    exact row1_set7 _ _ _ _ _ _ _ _ _
end Go.Proofs.YtplnojapnaaakaaGreatDoor

/- The document's joined of layer 10: an operation put behind others. -/
namespace Go.Proofs.YtplnojapnaaakaaGreatDoor
open Go Go.RowKit Go.Lib
set_option linter.unusedVariables false
/-- What joined answers: the row grown, each list the call's own. -/
abbrev PushW (B : Nat) (w w' : World) (v : Value) (e : Ending) (P : List Op5) : Prop := ∃ v' D', e = .returned v' ∧ OwnO w' B v' D' ∧ ReOw w' B D' P ∧ Row1 v w w' ∧ (v'.ownBlock = v.ownBlock ∨ ∃ k, v'.ownBlock = some k ∧ w.heap.size ≤ k)
theorem cellsO_put (F : List OV) (d d' : OV) : (((((((cellsO (F ++ [d])).set (F.length * 7) (.int .i64 d'.1)).set (F.length * 7 + 1) (.string d'.2.1)).set (F.length * 7 + 2) (.int .i64 d'.2.2.1.1)).set (F.length * 7 + 3) (.int .i64 d'.2.2.1.2.1)).set (F.length * 7 + 4) (.string d'.2.2.1.2.2)).set (F.length * 7 + 5) (.int .i64 d'.2.2.2.1)).set (F.length * 7 + 6) (slV d'.2.2.2.2) = cellsO (F ++ [d']) := by
  rw [cellsO_append, cellsO_append]
  have hl := cellsO_len F
  rw [List.set_append_right _ _ (by omega), List.set_append_right _ _ (by omega), List.set_append_right _ _ (by omega), List.set_append_right _ _ (by omega), List.set_append_right _ _ (by omega), List.set_append_right _ _ (by omega), List.set_append_right _ _ (by omega), hl]
  rw [show F.length * 7 - F.length * 7 = 0 by omega, show F.length * 7 + 1 - F.length * 7 = 1 by omega, show F.length * 7 + 2 - F.length * 7 = 2 by omega, show F.length * 7 + 3 - F.length * 7 = 3 by omega, show F.length * 7 + 4 - F.length * 7 = 4 by omega, show F.length * 7 + 5 - F.length * 7 = 5 by omega, show F.length * 7 + 6 - F.length * 7 = 6 by omega]
  simp [cellsO]
/-- One operation of a row of the call's own, written over. -/
abbrev put7 (w : World) (g m : Nat) (d : OV) : World := ((((((w.setCell ⟨g, m * 7, none⟩ (.int .i64 d.1)).setCell ⟨g, m * 7 + 1, none⟩ (.string d.2.1)).setCell ⟨g, m * 7 + 2, none⟩ (.int .i64 d.2.2.1.1)).setCell ⟨g, m * 7 + 3, none⟩ (.int .i64 d.2.2.1.2.1)).setCell ⟨g, m * 7 + 4, none⟩ (.string d.2.2.1.2.2)).setCell ⟨g, m * 7 + 5, none⟩ (.int .i64 d.2.2.2.1)).setCell ⟨g, m * 7 + 6, none⟩ (slV d.2.2.2.2)
theorem put7_lit (W : World) (g m : Nat) (k : Int) (t : ByteArray) (c : Int) (p : Option Addr) (l cp : Nat) : put7 W g m (k, t, z0, c, (p, l, cp)) = (((((((W.setCell ⟨g, m * 7, none⟩ (.int .i64 k)).setCell ⟨g, m * 7 + 1, none⟩ (.string t)).setCell ⟨g, m * 7 + 2, none⟩ (.int .i64 0)).setCell ⟨g, m * 7 + 3, none⟩ (.int .i64 0)).setCell ⟨g, m * 7 + 4, none⟩ (.string ⟨#[]⟩)).setCell ⟨g, m * 7 + 5, none⟩ (.int .i64 c)).setCell ⟨g, m * 7 + 6, none⟩ (.slice p l cp)) := rfl
theorem own_putO {w : World} {B g cap : Nat} {F : List OV} {d : OV} (h : OwnO w B (.slice (some ⟨g, 0, none⟩) (F.length + 1) cap) (F ++ [d])) (d' : OV) :
    OwnO (put7 w g F.length d') B (.slice (some ⟨g, 0, none⟩) (F.length + 1) cap) (F ++ [d']) := by
  have h' : w.ownsRow B 33 7 (.slice (some ⟨g, 0, none⟩) (F.length + 1) cap) (F.length + 1) (cellsO (F ++ [d])) := by
    have := h
    unfold OwnO at this
    rw [List.length_append] at this
    exact this
  have h1 := (h'.stored (F.length * 7) (.int .i64 d'.1)).1
  have h2 := (h1.stored (F.length * 7 + 1) (.string d'.2.1)).1
  have h3 := (h2.stored (F.length * 7 + 2) (.int .i64 d'.2.2.1.1)).1
  have h4 := (h3.stored (F.length * 7 + 3) (.int .i64 d'.2.2.1.2.1)).1
  have h5 := (h4.stored (F.length * 7 + 4) (.string d'.2.2.1.2.2)).1
  have h6 := (h5.stored (F.length * 7 + 5) (.int .i64 d'.2.2.2.1)).1
  have h7 := (h6.stored (F.length * 7 + 6) (slV d'.2.2.2.2)).1
  rw [cellsO_put] at h7
  show World.ownsRow _ _ _ _ _ _ _
  rw [List.length_append]
  exact h7
theorem own_drewO {w : World} {B : Nat} {v : Value} {D : List OV} (h : OwnO w B v D) : OwnO w.drew B v D := owns_same h (fun _ _ => rfl)
theorem row1_put7 {v : Value} {a w : World} (h : Row1 v a w) {g : Nat} (hg : v.ownBlock = some g) (m : Nat) (d : OV) : Row1 v a (put7 w g m d) :=
  ((((((h.setCell hg _ _).setCell hg _ _).setCell hg _ _).setCell hg _ _).setCell hg _ _).setCell hg _ _).setCell hg _ _
/-- What append finds, from whatever world. -/
theorem joined_tail {w : World} {B : Nat} {v : Value} {D : List OV} {P : List Op5} {o : Op5} {sp : Option Addr} {sl sc : Nat} (hB : B ≤ w.heap.size) (hv : OwnO w B v D) (hD : ReOw w B D P) (ho : OwnA w B (.slice sp sl sc) o.A) (W1 : World) (h1 : Below w.heap.size w W1) :
    OwnO (W1.alloc (.cells (opC o (.slice sp sl sc)) 33)) B v D ∧ OpAt (W1.alloc (.cells (opC o (.slice sp sl sc)) 33)) W1.heap.size 0 (o.k, o.t, o.v, o.c, (sp, sl, sc)) ∧ B ≤ (W1.alloc (.cells (opC o (.slice sp sl sc)) 33)).heap.size ∧
      ∀ v8 w8, OwnO w8 B v8 (D ++ [(o.k, o.t, o.v, o.c, (sp, sl, sc))]) → (W1.alloc (.cells (opC o (.slice sp sl sc)) 33)).grownBy w8 v.ownBlock → (v8.ownBlock = v.ownBlock ∨ v8.ownBlock = some (W1.alloc (.cells (opC o (.slice sp sl sc)) 33)).heap.size) → PushW B w w8 v (.returned v8) (P ++ [o]) := by
  have b1 : Below w.heap.size w (W1.alloc (.cells (opC o (.slice sp sl sc)) 33)) := h1.alloc h1.size _
  have hv1 := owns_below hv b1
  refine ⟨hv1, ?_, Nat.le_trans hB b1.size, fun v8 w8 h2 h3 h4 => ⟨v8, _, rfl, h2, ?_, (Row1.of_below b1).grown h3, h4.imp id (fun e => ⟨_, e, b1.size⟩)⟩⟩
  · refine ⟨?_, ?_, ?_, ?_, ?_, ?_, ?_⟩ <;> simp [opC]
  · have hk := (keepA_below b1).trans (keepA_grownO hv1 h3)
    exact forall2_append (hD.keep hk) (.cons ⟨rfl, rfl, rfl, rfl, keepA_own ho hk⟩ .nil)
set_option maxHeartbeats 4000000 in
set_option maxRecDepth 100000 in
theorem joined10_nil {B : Nat} (v : Value) (D : List OV) (P : List Op5) (o : Op5) (sp : Option Addr) (sl sc : Nat) (w : World) (hB : B ≤ w.heap.size) (hv : OwnO w B v D) (hD : ReOw w B D P) (ho : OwnA w B (.slice sp sl sc) o.A) (hl : P.length ≤ 16777216) (hP : P = []) :
    Calls Tryz.prog 140 #[v, opV o (.slice sp sl sc)] w fun e w' => PushW B w w' v e (P ++ [o]) := by
  have hlen := forall2_len hD
  have ba : Below w.heap.size w (w.alloc (.cells (opC o (.slice sp sl sc)) 33)) := (Below.refl _ _).alloc (Nat.le_refl _) _
  have hl33 : D.length ≤ 33554432 := by omega
  have HT : Hid _ := fun W1 h1 => joined_tail hB hv hD ho W1 h1
  subst hP
  have hD0 : D = [] := List.eq_nil_of_length_eq_zero (by simpa using hlen)
  subst hD0
  obtain ⟨p, cap, e⟩ := own_slice hv
  obtain rfl : v = .slice p 0 cap := e
  obtain ⟨k, t, ⟨xx, n, u⟩, cc, A⟩ := o
  have HT' : Hid (∀ W1, Below w.heap.size w W1 → _) := HT
  simp only [opC] at ba
  have HBA : Hid (∀ q, Below w.heap.size w ((w.alloc (.cells #[.int .i64 k, .string t, .int .i64 xx, .int .i64 n, .string u, .int .i64 cc, .slice sp sl sc] 33)).drewN q)) := fun q => below_drewN ba q
  have HO2 : Hid (∀ q, OpAt (((w.alloc (.cells #[.int .i64 k, .string t, .int .i64 xx, .int .i64 n, .string u, .int .i64 cc, .slice sp sl sc] 33)).drewN q).alloc (.cells #[.int .i64 k, .string t, .int .i64 xx, .int .i64 n, .string u, .int .i64 cc, .slice sp sl sc] 33)) (w.heap.size + 1) 0 (k, t, (xx, n, u), cc, sp, sl, sc)) := fun q => by
    have h := (HT'.out _ (HBA.out q)).2.1
    have e : ((w.alloc (.cells #[.int .i64 k, .string t, .int .i64 xx, .int .i64 n, .string u, .int .i64 cc, .slice sp sl sc] 33)).drewN q).heap.size = w.heap.size + 1 := by show (w.alloc _).heap.size = _; simp
    rw [e] at h
    exact h
  clear hv hD ho hlen ba hB HT hl
  go_enter Tryz.func140, Tryz.ntmps140
  go_wp2
  go_quiet (fail)
  go_wp2_with (at_builtin; refine wpList_append_ops rfl (.tmp 27) (.tmp 29) rfl B (.slice p 0 cap) [] rfl (HT'.out _ (HBA.out _)).1 _ 1 _ rfl (HO2.out _) hl33 (HT'.out _ (HBA.out _)).2.2.1 ?_; intro v8 w8 own8 gr8 hat8; have HQ : Hid (PushW B w w8 (.slice p 0 cap) (.returned v8) ([] ++ [_])) := (HT'.out _ (HBA.out _)).2.2.2 v8 w8 own8 gr8 hat8; clear own8 gr8 hat8 HT' HBA HO2)
  go_ret
  exact HQ.out
set_option maxHeartbeats 4000000 in
set_option maxRecDepth 100000 in
theorem joined10_kind {B : Nat} (v : Value) (D : List OV) (P : List Op5) (o : Op5) (sp : Option Addr) (sl sc : Nat) (w : World) (hB : B ≤ w.heap.size) (hv : OwnO w B v D) (hD : ReOw w B D P) (ho : OwnA w B (.slice sp sl sc) o.A) (hl : P.length ≤ 16777216) (F : List Op5) (x : Op5) (hP : P = F ++ [x]) (hx : x.k ≠ o.k ∨ o.k = 2) :
    Calls Tryz.prog 140 #[v, opV o (.slice sp sl sc)] w fun e w' => PushW B w w' v e (P ++ [o]) := by
  have hlen := forall2_len hD
  have ba : Below w.heap.size w (w.alloc (.cells (opC o (.slice sp sl sc)) 33)) := (Below.refl _ _).alloc (Nat.le_refl _) _
  have hl33 : D.length ≤ 33554432 := by omega
  have HT : Hid _ := fun W1 h1 => joined_tail hB hv hD ho W1 h1
  subst hP
  obtain ⟨FD, d, rfl, hFD, hxd⟩ : ∃ FD d, D = FD ++ [d] ∧ ReOw w B FD F ∧ ((d.1 = x.k ∧ d.2.1 = x.t ∧ d.2.2.1 = x.v ∧ d.2.2.2.1 = x.c) ∧ OwnA w B (slV d.2.2.2.2) x.A) := by
    rcases List.eq_nil_or_concat D with rfl | ⟨FD, d, rfl⟩
    · have := forall2_len hD; simp at this
    · rw [List.concat_eq_append] at hD ⊢
      have hl' : FD.length = F.length := by have := forall2_len hD; simpa using this
      obtain ⟨h1, h2⟩ := forall2_unappend hl' hD
      cases h2 with
      | cons a _ => exact ⟨FD, d, rfl, h1, ⟨a.1, a.2.1, a.2.2.1, a.2.2.2.1⟩, a.2.2.2.2⟩
  obtain ⟨⟨f1, f2, f3, f4⟩, hrx⟩ := hxd
  have hFl := forall2_len hFD
  obtain ⟨g, cap, rfl⟩ : ∃ g cap, v = .slice (some ⟨g, 0, none⟩) (FD.length + 1) cap := by
    rcases hv.2 with ⟨_, h0⟩ | ⟨g, cap, cur, e, _⟩
    · simp at h0
    · exact ⟨g, cap, by rw [e]; simp⟩
  have hv2 : w.ownsRow B 33 7 (.slice (some ⟨g, 0, none⟩) (FD.length + 1) cap) (FD.length + 1) (cellsO (FD ++ [d])) := by
    have h := hv
    unfold OwnO at h
    rw [show (FD ++ [d]).length = FD.length + 1 by simp] at h
    exact h
  have hat := own_opAt hv2 FD.length d (by simp)
  rw [Nat.zero_add] at hat
  obtain ⟨m, hm⟩ : ∃ m, FD.length = m := ⟨_, rfl⟩
  have c0 := hat.c0
  rw [f1] at c0
  rw [hm] at c0 HT ⊢
  obtain ⟨xk, hxk⟩ : ∃ z, x.k = z := ⟨_, rfl⟩
  rw [hxk] at c0 hx
  obtain ⟨k, t, ⟨xx, n, u⟩, cc, A⟩ := o
  have HT' : Hid (∀ W1, Below w.heap.size w W1 → _) := HT
  simp only [opC] at ba hx
  have c0' : (w.alloc (.cells #[.int .i64 k, .string t, .int .i64 xx, .int .i64 n, .string u, .int .i64 cc, .slice sp sl sc] 33)).cell? ⟨g, m * 7, none⟩ = some (.int .i64 xk) := (ba.cell (lt_of_cell c0)).trans c0
  have hgw : g < w.heap.size := lt_of_cell c0
  have hne : ¬ g = w.heap.size := by omega
  have HBA : Hid (∀ q, Below w.heap.size w ((w.alloc (.cells #[.int .i64 k, .string t, .int .i64 xx, .int .i64 n, .string u, .int .i64 cc, .slice sp sl sc] 33)).drewN q)) := fun q => below_drewN ba q
  have HO2 : Hid (∀ q, OpAt (((w.alloc (.cells #[.int .i64 k, .string t, .int .i64 xx, .int .i64 n, .string u, .int .i64 cc, .slice sp sl sc] 33)).drewN q).alloc (.cells #[.int .i64 k, .string t, .int .i64 xx, .int .i64 n, .string u, .int .i64 cc, .slice sp sl sc] 33)) (w.heap.size + 1) 0 (k, t, (xx, n, u), cc, sp, sl, sc)) := fun q => by
    have h := (HT'.out _ (HBA.out q)).2.1
    have e : ((w.alloc (.cells #[.int .i64 k, .string t, .int .i64 xx, .int .i64 n, .string u, .int .i64 cc, .slice sp sl sc] 33)).drewN q).heap.size = w.heap.size + 1 := by show (w.alloc _).heap.size = _; simp
    rw [e] at h
    exact h
  have hml : m ≤ 16777216 := by simp at hl; omega
  have hw1 : IntKind.i64.wrap (m : Int) = (m : Int) := IntWalk.i64_in _ (by omega)
  have hw2 : IntKind.i64.wrap ((m : Int) + 1 - 1) = (m : Int) := by rw [show (m : Int) + 1 - 1 = m by omega]; exact hw1
  have hd1 : ((m : Int) + 1) - 1 = (m : Int) := by omega
  have hz : decide ((m : Int) < 0) = false := by rw [decide_eq_false_iff_not]; omega
  have hmz : (0 : Int) ≤ (m : Int) := by omega
  have hmlt : (m : Int) < (m : Int) + 1 := by omega
  clear hv hD ho hlen ba hB HT hl hv2 hat hFD hFl f1 f2 f3 f4 hrx hm hxk c0
  by_cases hk : xk = k
  · obtain rfl : k = 2 := hx.resolve_left (fun h => h hk)
    subst hk
    go_enter Tryz.func140, Tryz.ntmps140
    go_wp2
    go_quiet (fail)
    go_wp2_with (at_builtin; refine wpList_append_ops rfl (.tmp 27) (.tmp 29) rfl B _ (FD ++ [d]) rfl (HT'.out _ (HBA.out _)).1 _ 1 _ rfl (HO2.out _) hl33 (HT'.out _ (HBA.out _)).2.2.1 ?_; intro v8 w8 own8 gr8 hat8; have HQ := Hid.mk' ((HT'.out _ (HBA.out _)).2.2.2 v8 w8 own8 gr8 hat8); clear own8 gr8 hat8 HT' HBA HO2)
    go_ret
    exact HQ.out
  · have hkb : (xk != k) = true := by simpa using hk
    clear hx hk
    go_enter Tryz.func140, Tryz.ntmps140
    go_wp2
    go_quiet (fail)
    go_wp2_with (at_builtin; refine wpList_append_ops rfl (.tmp 27) (.tmp 29) rfl B _ (FD ++ [d]) rfl (HT'.out _ (HBA.out _)).1 _ 1 _ rfl (HO2.out _) hl33 (HT'.out _ (HBA.out _)).2.2.1 ?_; intro v8 w8 own8 gr8 hat8; have HQ := Hid.mk' ((HT'.out _ (HBA.out _)).2.2.2 v8 w8 own8 gr8 hat8); clear own8 gr8 hat8 HT' HBA HO2)
    go_ret
    exact HQ.out
set_option maxHeartbeats 8000000 in
set_option maxRecDepth 100000 in
theorem joined10_same {B : Nat} (v : Value) (D : List OV) (P : List Op5) (o : Op5) (sp : Option Addr) (sl sc : Nat) (w : World) (hB : B ≤ w.heap.size) (hv : OwnO w B v D) (hD : ReOw w B D P) (ho : OwnA w B (.slice sp sl sc) o.A) (hl : P.length ≤ 16777216) (F : List Op5) (x : Op5) (hP : P = F ++ [x]) (hx : x.k = o.k) (h2 : o.k ≠ 2) (hxv : x.v = z0) (hn1 : x.A.length ≤ 2097152) (hn2 : o.A.length ≤ 2097152) (hsz : x.t.size + o.t.size ≤ 16777216) (hcc : 0 ≤ x.c ∧ 0 ≤ o.c ∧ x.c + o.c ≤ 4398046511104) :
    Calls Tryz.prog 140 #[v, opV o (.slice sp sl sc)] w fun e w' => PushW B w w' v e (if x.A = o.A then F ++ [jnO x o] else P ++ [o]) := by
  have hlen := forall2_len hD
  have ba : Below w.heap.size w (w.alloc (.cells (opC o (.slice sp sl sc)) 33)) := (Below.refl _ _).alloc (Nat.le_refl _) _
  have hl33 : D.length ≤ 33554432 := by omega
  have HT : Hid _ := fun W1 h1 => joined_tail hB hv hD ho W1 h1
  subst hP
  obtain ⟨FD, d, rfl, hFD, hxd⟩ : ∃ FD d, D = FD ++ [d] ∧ ReOw w B FD F ∧ ((d.1 = x.k ∧ d.2.1 = x.t ∧ d.2.2.1 = x.v ∧ d.2.2.2.1 = x.c) ∧ OwnA w B (slV d.2.2.2.2) x.A) := by
    rcases List.eq_nil_or_concat D with rfl | ⟨FD, d, rfl⟩
    · have := forall2_len hD; simp at this
    · rw [List.concat_eq_append] at hD ⊢
      have hl' : FD.length = F.length := by have := forall2_len hD; simpa using this
      obtain ⟨h1, h2⟩ := forall2_unappend hl' hD
      cases h2 with
      | cons a _ => exact ⟨FD, d, rfl, h1, ⟨a.1, a.2.1, a.2.2.1, a.2.2.2.1⟩, a.2.2.2.2⟩
  obtain ⟨⟨f1, f2, f3, f4⟩, hrx⟩ := hxd
  have hFl := forall2_len hFD
  obtain ⟨g, cap, rfl⟩ : ∃ g cap, v = .slice (some ⟨g, 0, none⟩) (FD.length + 1) cap := by
    rcases hv.2 with ⟨_, h0⟩ | ⟨g, cap, cur, e, _⟩
    · simp at h0
    · exact ⟨g, cap, by rw [e]; simp⟩
  have hv2 : w.ownsRow B 33 7 (.slice (some ⟨g, 0, none⟩) (FD.length + 1) cap) (FD.length + 1) (cellsO (FD ++ [d])) := by
    have h := hv
    unfold OwnO at h
    rw [show (FD ++ [d]).length = FD.length + 1 by simp] at h
    exact h
  have hat := own_opAt hv2 FD.length d (by simp)
  rw [Nat.zero_add] at hat
  obtain ⟨m, hm⟩ : ∃ m, FD.length = m := ⟨_, rfl⟩
  have CS : Hid (∀ W, Below w.heap.size w W → Calls Tryz.prog 98 #[slV d.2.2.2.2, .slice sp sl sc] W fun r w' => r = .returned (.bool (decide (x.A = o.A))) ∧ Below W.heap.size W w') := fun W hW => sameAttrs_any _ _ x.A o.A W ((own_RN hrx).below hW).row ((own_RN ho).below hW).row (by omega) (by omega)
  have HJ : Hid (x.A = o.A → ∀ W, Below w.heap.size w W → PushW B w (put7 W g m (o.k, x.t ++ o.t, z0, x.c + o.c, d.2.2.2.2)).drew (.slice (some ⟨g, 0, none⟩) (FD.length + 1) cap) (.returned (.slice (some ⟨g, 0, none⟩) (FD.length + 1) cap)) (F ++ [jnO x o])) := fun hA W hW => by
    have hvW : OwnO W B (.slice (some ⟨g, 0, none⟩) (FD.length + 1) cap) (FD ++ [d]) := owns_below hv hW
    have hj := own_putO hvW (o.k, x.t ++ o.t, z0, x.c + o.c, d.2.2.2.2)
    rw [hm] at hj
    have hj := own_drewO hj
    have hr : Row1 (.slice (some ⟨g, 0, none⟩) (FD.length + 1) cap) w (put7 W g m (o.k, x.t ++ o.t, z0, x.c + o.c, d.2.2.2.2)).drew := (row1_put7 (Row1.of_below hW) rfl _ _).drew
    have hk := keepA_row1 hv hr
    refine ⟨.slice (some ⟨g, 0, none⟩) (FD.length + 1) cap, FD ++ [(o.k, x.t ++ o.t, z0, x.c + o.c, d.2.2.2.2)], rfl, ?_, forall2_append (ReOw.keep hFD hk) (.cons ⟨hx.symm, rfl, hxv.symm, rfl, keepA_own hrx hk⟩ .nil), hr, Or.inl rfl⟩
    rw [hm]; exact hj
  have HFz : Hid (∀ W, Below w.heap.size w W → ∀ i, W.frozen? ⟨g, i, none⟩ = false) := fun W hW i => by
    obtain ⟨_, cur, hcur⟩ := owns_block (owns_below hv hW) g rfl
    exact frozen_of_heap hcur _
  have c0 := hat.c0
  have c1 := hat.c1
  have c2 := hat.c2
  have c3 := hat.c3
  have c4 := hat.c4
  have c5 := hat.c5
  have c6 := hat.c6
  rw [f1, hx] at c0
  rw [f2] at c1
  rw [f3, hxv] at c2 c3 c4
  rw [f4] at c5
  rw [hm] at c0 c1 c2 c3 c4 c5 c6 HT HJ ⊢
  obtain ⟨xt, hxt⟩ : ∃ z, x.t = z := ⟨_, rfl⟩
  obtain ⟨xc, hxc⟩ : ∃ z, x.c = z := ⟨_, rfl⟩
  rw [hxt] at c1 HJ hsz
  rw [hxc] at c5 HJ hcc
  obtain ⟨⟨xp, xl, xcap⟩, hxs⟩ : ∃ z, d.2.2.2.2 = z := ⟨_, rfl⟩
  rw [hxs] at c6 CS HJ
  simp only [slV] at c6 CS
  obtain ⟨q, hq⟩ : ∃ q, decide (x.A = o.A) = q := ⟨_, rfl⟩
  rw [hq] at CS
  have HQ : Hid (decide (x.A = o.A) = q) := hq
  have hgw : g < w.heap.size := lt_of_cell c0
  obtain ⟨k, t, ⟨xx, n, u⟩, cc, A⟩ := o
  have HT' : Hid (∀ W1, Below w.heap.size w W1 → _) := HT
  simp only [opC] at ba
  simp only at hcc hsz h2 c0 HJ HQ ⊢
  obtain ⟨hc1, hc2, hc3⟩ := hcc
  have hd1 : ((m : Int) + 1) - 1 = (m : Int) := by omega
  have hmz : (0 : Int) ≤ (m : Int) := by omega
  have hk2 : (k == 2) = false := by simpa using h2
  have hk0 : (k != k) = false := bne_self_eq_false k
  have hml : m ≤ 16777216 := by simp at hl; omega
  have hw1 : IntKind.i64.wrap (m : Int) = (m : Int) := IntWalk.i64_in _ (by omega)
  have hw2 : IntKind.i64.wrap ((m : Int) + 1 - 1) = (m : Int) := by rw [hd1]; exact hw1
  have hz : decide ((m : Int) < 0) = false := by rw [decide_eq_false_iff_not]; omega
  have hmlt : (m : Int) < (m : Int) + 1 := by omega
  have hwc : IntKind.i64.wrap (xc + cc) = xc + cc := by rw [IntKind.wrap_i64]; omega
  obtain ⟨W1, hW1⟩ : ∃ W, W = w.alloc (.cells #[.int .i64 k, .string t, .int .i64 xx, .int .i64 n, .string u, .int .i64 cc, .slice sp sl sc] 33) := ⟨_, rfl⟩
  rw [← hW1] at ba
  have d0 : W1.cell? ⟨w.heap.size, 0, none⟩ = some (.int .i64 k) := by rw [hW1]; simp
  have d1 : W1.cell? ⟨w.heap.size, 1, none⟩ = some (.string t) := by rw [hW1]; simp
  have d2 : W1.cell? ⟨w.heap.size, 2, none⟩ = some (.int .i64 xx) := by rw [hW1]; simp
  have d3 : W1.cell? ⟨w.heap.size, 3, none⟩ = some (.int .i64 n) := by rw [hW1]; simp
  have d4 : W1.cell? ⟨w.heap.size, 4, none⟩ = some (.string u) := by rw [hW1]; simp
  have d5 : W1.cell? ⟨w.heap.size, 5, none⟩ = some (.int .i64 cc) := by rw [hW1]; simp
  have d6 : W1.cell? ⟨w.heap.size, 6, none⟩ = some (.slice sp sl sc) := by rw [hW1]; simp
  have HC : Hid (∀ W, Below w.heap.size w W → W.cell? ⟨g, m * 7, none⟩ = some (.int .i64 k) ∧ W.cell? ⟨g, m * 7 + 1, none⟩ = some (.string xt) ∧ W.cell? ⟨g, m * 7 + 2, none⟩ = some (.int .i64 0) ∧ W.cell? ⟨g, m * 7 + 3, none⟩ = some (.int .i64 0) ∧ W.cell? ⟨g, m * 7 + 4, none⟩ = some (.string ⟨#[]⟩) ∧ W.cell? ⟨g, m * 7 + 5, none⟩ = some (.int .i64 xc) ∧ W.cell? ⟨g, m * 7 + 6, none⟩ = some (.slice xp xl xcap)) := fun W b => ⟨(b.cell (lt_of_cell c0)).trans c0, (b.cell (lt_of_cell c1)).trans c1, (b.cell (lt_of_cell c2)).trans c2, (b.cell (lt_of_cell c3)).trans c3, (b.cell (lt_of_cell c4)).trans c4, (b.cell (lt_of_cell c5)).trans c5, (b.cell (lt_of_cell c6)).trans c6⟩
  have HD : Hid (∀ W, Below W1.heap.size W1 W → W.cell? ⟨w.heap.size, 0, none⟩ = some (.int .i64 k) ∧ W.cell? ⟨w.heap.size, 1, none⟩ = some (.string t) ∧ W.cell? ⟨w.heap.size, 2, none⟩ = some (.int .i64 xx) ∧ W.cell? ⟨w.heap.size, 3, none⟩ = some (.int .i64 n) ∧ W.cell? ⟨w.heap.size, 4, none⟩ = some (.string u) ∧ W.cell? ⟨w.heap.size, 5, none⟩ = some (.int .i64 cc) ∧ W.cell? ⟨w.heap.size, 6, none⟩ = some (.slice sp sl sc)) := fun W b => ⟨(b.cell (lt_of_cell d0)).trans d0, (b.cell (lt_of_cell d1)).trans d1, (b.cell (lt_of_cell d2)).trans d2, (b.cell (lt_of_cell d3)).trans d3, (b.cell (lt_of_cell d4)).trans d4, (b.cell (lt_of_cell d5)).trans d5, (b.cell (lt_of_cell d6)).trans d6⟩
  obtain ⟨e0, e1, e2, e3, e4, e5, e6⟩ := HC.out W1 ba
  have hne : ¬ g = w.heap.size := by omega
  have hne' : ¬ w.heap.size = g := by omega
  have hbs : w.heap.size ≤ W1.heap.size := ba.size
  have HBA : Hid (Below w.heap.size w W1) := ba
  clear hv hD ho hlen hB HT hl hv2 hat hFD hFl f1 f2 f3 f4 hrx hm hxt hxc hxs hq c0 c1 c2 c3 c4 c5 c6 h2 hx hn1 hn2 ba
  go_enter Tryz.func140, Tryz.ntmps140
  go_upto_region 2 with fail
  rw [← hW1]
  clear hW1
  go_quiet (fail)
  go_wp2_with fail
  obtain ⟨W2, hW2⟩ : ∃ W, W = W1.drewN nq := ⟨_, rfl⟩
  have b12 : Below W1.heap.size W1 W2 := by rw [hW2]; exact below_drewN (Below.refl _ _) _
  have ba : Below w.heap.size w W2 := HBA.out.trans (b12.mono HBA.out.size)
  rw [← hW2]
  clear hW2 d0 d1 d2 d3 d4 d5 d6 e0 e1 e2 e3 e4 e5 e6
  obtain ⟨e0, e1, e2, e3, e4, e5, e6⟩ := HC.out W2 ba
  obtain ⟨d0, d1, d2, d3, d4, d5, d6⟩ := HD.out W2 b12
  have b12d : Below W1.heap.size W1 W2.drew := b12.drew
  have bad : Below w.heap.size w W2.drew := ba.drew
  have hbs2 : w.heap.size ≤ W2.drew.heap.size := ba.size
  have hbs3 : W1.heap.size ≤ W2.drew.heap.size := b12.size
  have cs := CS.out W2.drew bad
  have HB2 : Hid (Below W1.heap.size W1 W2.drew ∧ Below w.heap.size w W2.drew) := ⟨b12d, bad⟩
  clear b12 b12d ba
  go_region_held3 (fun w' => ((w'.cell? ⟨g, m * 7, none⟩ = some (.int .i64 k) ∧ w'.cell? ⟨g, m * 7 + 1, none⟩ = some (.string xt) ∧ w'.cell? ⟨g, m * 7 + 2, none⟩ = some (.int .i64 0) ∧ w'.cell? ⟨g, m * 7 + 3, none⟩ = some (.int .i64 0) ∧ w'.cell? ⟨g, m * 7 + 4, none⟩ = some (.string ⟨#[]⟩) ∧ w'.cell? ⟨g, m * 7 + 5, none⟩ = some (.int .i64 xc) ∧ w'.cell? ⟨g, m * 7 + 6, none⟩ = some (.slice xp xl xcap)) ∧ (w'.cell? ⟨w.heap.size, 0, none⟩ = some (.int .i64 k) ∧ w'.cell? ⟨w.heap.size, 1, none⟩ = some (.string t) ∧ w'.cell? ⟨w.heap.size, 2, none⟩ = some (.int .i64 xx) ∧ w'.cell? ⟨w.heap.size, 3, none⟩ = some (.int .i64 n) ∧ w'.cell? ⟨w.heap.size, 4, none⟩ = some (.string u) ∧ w'.cell? ⟨w.heap.size, 5, none⟩ = some (.int .i64 cc) ∧ w'.cell? ⟨w.heap.size, 6, none⟩ = some (.slice sp sl sc))) ∧ Below w.heap.size w w')
    (exact ⟨by first | (with_reducible assumption) | (simp [*]; done), by first | (with_reducible assumption) | exact bad⟩)
    (first | (go_at_call 98; refine cs.mono ?_; rintro r wD ⟨rfl, bD⟩; have jD : Below w.heap.size w wD := HB2.out.2.trans (bD.mono hbs2); have j1 : Below W1.heap.size W1 wD := HB2.out.1.trans (bD.mono hbs3); have mmD := And.intro (HC.out wD jD) (HD.out wD j1)))
  clear cs bD d0 d1 d2 d3 d4 d5 d6 e0 e1 e2 e3 e4 e5 e6 bad HC HD HB2 HBA
  obtain ⟨⟨e0, e1, e2, e3, e4, e5, e6⟩, d0, d1, d2, d3, d4, d5, d6⟩ := mmD
  cases q with
  | true =>
    have hAA := of_decide_eq_true HQ.out
    have HAA := Hid.mk' hAA
    have HY : Hid (∀ W, Below w.heap.size w W → PushW B w (put7 W g m (k, xt ++ t, z0, xc + cc, (xp, xl, xcap))).drew (.slice (some ⟨g, 0, none⟩) (m + 1) cap) (.returned (.slice (some ⟨g, 0, none⟩) (m + 1) cap)) (F ++ [jnO x ⟨k, t, (xx, n, u), cc, A⟩])) := fun W hW => by have := HJ.out hAA W hW; exact this
    have f0 := HFz.out wD jD (m * 7)
    have f1 := HFz.out wD jD (m * 7 + 1)
    have f2 := HFz.out wD jD (m * 7 + 2)
    have f3 := HFz.out wD jD (m * 7 + 3)
    have f4 := HFz.out wD jD (m * 7 + 4)
    have f5 := HFz.out wD jD (m * 7 + 5)
    have f6 := HFz.out wD jD (m * 7 + 6)
    have HJD : Hid (Below w.heap.size w wD) := jD
    clear HJ HT' HQ hAA HFz jD j1
    go_wp2_with fail
    obtain ⟨W9, hW9⟩ : ∃ W, W = (put7 wD g m (k, xt ++ t, z0, xc + cc, (xp, xl, xcap))).drew := ⟨_, rfl⟩
    have HY8 := HY.out wD HJD.out
    rw [← hW9] at HY8
    have HY9 := Hid.mk' HY8
    rw [put7_lit] at hW9
    clear HY8
    clear HY HJD
    go_region
    rw [← hW9]
    clear hW9 e0 e1 e2 e3 e4 e5 e6 d0 d1 d2 d3 d4 d5 d6 f0 f1 f2 f3 f4 f5 f6
    go_wp2
    go_ret
    exact HY9.out
  | false =>
    have hAA := of_decide_eq_false HQ.out
    have HAA := Hid.mk' hAA
    have HBA : Hid (Below w.heap.size w wD) := jD
    clear HJ HQ hAA e0 e1 e2 e3 e4 e5 e6 jD j1 HFz
    go_wp2_with (at_builtin; refine wpList_append_ops rfl (.tmp 41) (.tmp 43) rfl B _ (FD ++ [d]) rfl (HT'.out _ HBA.out).1 _ 1 _ rfl (HT'.out _ HBA.out).2.1 hl33 (HT'.out _ HBA.out).2.2.1 ?_; intro v8 w8 own8 gr8 hat8; have HQ := Hid.mk' ((HT'.out _ HBA.out).2.2.2 v8 w8 own8 gr8 hat8); clear own8 gr8 hat8 HT' HBA)
    go_ret
    have hq := HQ.out
    first | exact hq | (rw [List.append_assoc] at hq; exact hq) | (rw [if_neg HAA.out]; first | exact hq | (rw [List.append_assoc] at hq; exact hq))
end Go.Proofs.YtplnojapnaaakaaGreatDoor
