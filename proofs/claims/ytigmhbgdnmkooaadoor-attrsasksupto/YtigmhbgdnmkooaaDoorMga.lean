/- The body of AttrsAsks' loops over attrs.Each, walked once. One round of AttrsAsks' outer loop, whatever marks are laid. What vellumref03.put answers. What vellumref03.Of answers. -/
import Derived.Test.YtigmhbgdnmkooaaDoorEa
import Derived.Test.YtigmhbgdnmkooaaDoorHv
import Derived.Test.YtigmhbgdnmkooaaDoorVm
import Derived.Test.YtigmhbgdnmkooaaDoorSm
import Derived.RangeFuncLeaves
import Derived.Test.YtigmhbgdnmkooaaDoorRj
import Derived.Test.YtigmhbgdnmkooaaDoorRc
import Derived.Deep.DeepCutAuto

/- The body of AttrsAsks' loops over attrs.Each, walked once. -/
namespace Go.Proofs.YtigmhbgdnmkooaaDoor
open Go Go.RowKit Go.Lib Go.Shelf
set_option linter.unusedVariables false
attribute [local go_sem] Oper.semAt_some

/-- The first loop over a function within a code, its body. -/
def rfBody : Code → Option Code
  | .rangeFunc _ _ _ b => some b
  | .seq a b => (rfBody a).orElse fun _ => rfBody b
  | .block _ c => rfBody c
  | .loop c => rfBody c
  | _ => none

theorem neq_of_eql {t tx ty : TypeId} {vx vy : Value} {b : Bool} {w : World} (h : (binOp .eql t (.iface tx vx) (.iface ty vy)).run Tryd.prog w = .ok (.bool b) w) :
    (binOp .neq t (.iface tx vx) (.iface ty vy)).run Tryd.prog w = .ok (.bool (!b)) w := by
  have e1 : ∀ x y, binOp .eql t (.iface tx x) (.iface ty y) = (do pure (.bool (← Op.equal t (.iface tx x) (.iface ty y)))) := fun _ _ => rfl
  have e2 : ∀ x y, binOp .neq t (.iface tx x) (.iface ty y) = (do pure (.bool (!(← Op.equal t (.iface tx x) (.iface ty y))))) := fun _ _ => rfl
  rw [e1] at h
  rw [e2]
  rcases hq : (Op.equal t (.iface tx vx) (.iface ty vy)).run Tryd.prog w with _ | _ | _ | _ <;> simp [hq] at h ⊢
  all_goals exact h
theorem vO_form (q : A2) : (∃ b, vO q = .iface 75 (.bool b)) ∨ (∃ n, vO q = .iface 76 (.int .i64 n)) ∨ (∃ t, vO q = .iface 77 (.string t)) ∨ vO q = .iface 79 (.agg #[]) := by
  unfold vO valOf
  split
  · exact .inl ⟨_, rfl⟩
  · split
    · exact .inr (.inl ⟨_, rfl⟩)
    · split
      · exact .inr (.inr (.inl ⟨_, rfl⟩))
      · exact .inr (.inr (.inr rfl))
theorem eql_vO (q r : A2) : ∃ b : Bool, (b = true ↔ vO q = vO r) ∧ ∀ w, (binOp .eql 40 (vO q) (vO r)).run Tryd.prog w = .ok (.bool b) w := by
  rcases vO_form q with ⟨x, h⟩ | ⟨x, h⟩ | ⟨x, h⟩ | h <;> rcases vO_form r with ⟨y, h'⟩ | ⟨y, h'⟩ | ⟨y, h'⟩ | h' <;> rw [h, h']
  · exact ⟨x == y, by simp, fun w => eql_flag x y w⟩
  · exact ⟨false, by simp, fun w => eql_types _ _ (by decide) w⟩
  · exact ⟨false, by simp, fun w => eql_types _ _ (by decide) w⟩
  · exact ⟨false, by simp, fun w => eql_types _ _ (by decide) w⟩
  · exact ⟨false, by simp, fun w => eql_types _ _ (by decide) w⟩
  · exact ⟨x == y, by simp, fun w => eql_num x y w⟩
  · exact ⟨false, by simp, fun w => eql_types _ _ (by decide) w⟩
  · exact ⟨false, by simp, fun w => eql_types _ _ (by decide) w⟩
  · exact ⟨false, by simp, fun w => eql_types _ _ (by decide) w⟩
  · exact ⟨false, by simp, fun w => eql_types _ _ (by decide) w⟩
  · exact ⟨x.toList == y.toList, by simp [key_beq], fun w => eql_text x y w⟩
  · exact ⟨false, by simp, fun w => eql_types _ _ (by decide) w⟩
  · exact ⟨false, by simp, fun w => eql_types _ _ (by decide) w⟩
  · exact ⟨false, by simp, fun w => eql_types _ _ (by decide) w⟩
  · exact ⟨false, by simp, fun w => eql_types _ _ (by decide) w⟩
  · exact ⟨true, by simp, fun w => eql_null w⟩
theorem neq_vO (q r : A2) : ∃ b : Bool, (b = true ↔ vO q = vO r) ∧ ∀ w, (binOp .neq 40 (vO q) (vO r)).run Tryd.prog w = .ok (.bool (!b)) w := by
  obtain ⟨b, h1, h2⟩ := eql_vO q r
  refine ⟨b, h1, fun w => ?_⟩
  obtain ⟨t, x, e⟩ := vO_if q
  obtain ⟨t', x', e'⟩ := vO_if r
  have := h2 w
  rw [e, e'] at this ⊢
  exact neq_of_eql this

/-- A pair as it is told. -/
def eK (q : A2) : ByteArray × Value := (q.1, vO q)
/-- Between two rounds: k boxed at the world's end. -/
def EI (T : List A2) (w0 : World) (pre : List A2) (W : World) : Prop :=
  ((pre.map eK = (T.map eK).take pre.length ∧ pre.length ≤ T.length) ∧ W.cell? ⟨w0.heap.size, 0, none⟩ = some (.int .i64 (pre.length : Nat)) ∧ W.frozen? ⟨w0.heap.size, 0, none⟩ = false) ∧ Below w0.heap.size w0 W
theorem EI_own (T : List A2) (w0 : World) (B : Nat) (hB : w0.heap.size ≤ B) : OwnFrom B (EI T w0) :=
  OwnFrom.and (Own.from (fun s A C row hs hg hr => ⟨hs.1, cell_kept hs.2.1 hg hr, (frozen_kept hs.2.1 hg hr).trans hs.2.2⟩) _) (ownFrom_below (Nat.le_refl _) hB)
/-- How a round is left. -/
def EX (T : List A2) (w0 : World) (stop : Int) (c : Code) (pre : List A2) (W : World) : Prop :=
  (c = .exit 2 ∧ (pre.length : Int) = stop ∧ EI T w0 pre W) ∨ (c = .ret ∧ ¬ pre.map eK <+: T.map eK)
theorem EX_own (T : List A2) (w0 : World) (stop : Int) (B : Nat) (hB : w0.heap.size ≤ B) (c : Code) : OwnFrom B (EX T w0 stop c) := fun s A C row hs hg hr => by
  rcases hs with ⟨h1, h3, h4⟩ | h
  · exact .inl ⟨h1, h3, EI_own T w0 B hB s A C row h4 hg hr⟩
  · exact .inr h
theorem EI_step {T : List A2} {w0 W w' : World} {k : Nat} {vi : Int} {pre : List A2} {x : A2} (hw : Below W.heap.size W w') (h : EI T w0 pre W)
    (hsn : pre.map eK ++ [eK x] = (T.map eK).take (k + 1)) (hlen : k + 1 ≤ T.length) (hk : pre.length = k) (ei : vi = (k : Int) + 1) :
    KeepsOthers W (w'.setCell ⟨w0.heap.size, 0, none⟩ (.int .i64 vi)) ∧
    Below w0.heap.size W (w'.setCell ⟨w0.heap.size, 0, none⟩ (.int .i64 vi)) ∧
    EI T w0 (pre ++ [x]) (w'.setCell ⟨w0.heap.size, 0, none⟩ (.int .i64 vi)) := by
  obtain ⟨⟨⟨hpre, hpl⟩, hci, hfi⟩, hB⟩ := h
  have e1 : vi = ((k + 1 : Nat) : Int) := by rw [ei]; rfl
  rw [e1]
  have hci' := (hw.cell (lt_of_cell hci)).trans hci
  have hfi' := (hw.frozen (lt_of_cell hci)).trans hfi
  have hB0 : Below w0.heap.size W w' := hw.mono hB.size
  have hB2 : Below w0.heap.size W (w'.setCell ⟨w0.heap.size, 0, none⟩ (.int .i64 (k + 1 : Nat))) := hB0.setCell (p := ⟨w0.heap.size, 0, none⟩) (Nat.le_refl _) _
  have hl : (pre ++ [x]).length = k + 1 := by rw [List.length_append, hk, List.length_singleton]
  refine ⟨(others_of_below hw).trans (KeepsOthers.setCell _ _ _), hB2, ⟨⟨?_, by rw [hl]; exact hlen⟩, ?_, ?_⟩, hB.trans hB2⟩
  · rw [hl, List.map_append]; exact hsn
  · rw [hl]
    exact World.cell?_setCell_same' _ _ _ (by rw [hci']; rfl)
  · rw [World.frozen?_setCell]; exact hfi'

set_option maxHeartbeats 4000000 in
set_option maxRecDepth 100000 in
theorem asks_body (eachBody : Code) (hcode : (Tryd.f3.body).bind rfBody = some eachBody) (L : List A2) (good : Bool) (T : List A2) (hT : T = if good then L else []) (n : Nat) (hn : L.length = n) (hnl : n ≤ 1048576) (p : Option Addr) (cap X G : Nat) (stop : Int) (w0 : World)
    (hc : ∀ j q, L[j]? = some q → ∃ b off, p = some ⟨b, off, none⟩ ∧ PairAt w0 b (off + j * 4) q)
    (hbl : w0.cell? ⟨X, 0, none⟩ = some (.slice p n cap)) (hbs : w0.cell? ⟨X + 1, 0, none⟩ = some (.int .i64 stop)) (hbr : w0.cell? ⟨X + 1 + 1, 0, none⟩ = some (.bool false)) (hfr : w0.frozen? ⟨X + 1 + 1, 0, none⟩ = false)
    (hbg : w0.cell? ⟨G, 0, none⟩ = some (.bool good)) (A : Nat) (hA : w0.heap.size = A) (l : Nat) (pre : List A2) (x : A2) (W : World) (hEI : EI T w0 pre W) (hlen : pre.length < T.length)
    {u0 u1 u2 u4 u7 u8 u9 u10 u11 u12 u14 u15 u16 u17 u18 u22 u23 u24 u25 u26 u27 u28 u29 u30 u31 u32 u33 u34 u35 u36 u37 u38 u39 u40 u41 u42 u43 u44 u45 u46 u47 u48 u49 u50 u51 u52 u53 u54 u55 u56 u57 u58 u59 u60 u61 u62 u63 u64 u65 u66 u67 u68 u69 u70 u71 u72 u73 u74 u75 u76 u77 u78 u79 u80 u81 u82 u83 u84 u85 u86 u87 u88 u89 u90 u91 u92 u93 u94 u95 u96 u97 u98 u99 u100 u101 u102 u103 u104 u105 u106 u107 u108 u109 u110 u111 u112 u113 u114 u115 u116 u117 u118 u119 u120 u121 u122 u123 u124 u125 u126 u127 u128 u129 u130 u131 u132 u133 u134 u135 u136 u137 u138 u139 u140 u141 u142 u143 u144 u145 u146 u147 u148 u149 u150 u151 u152 u153 u154 u155 u156 u157 : Value} :
    eachBody.wpIn (Fence.wide.inRound l) 3 Tryd.prog (ownPostK (Below w0.heap.size) (EI T w0) (EX T w0 stop) (pre ++ [x]) W)
      { tmps := #[u0, u1, u2, .pointer (some ⟨X, 0, none⟩), u4, .pointer (some ⟨X + 1, 0, none⟩), .pointer (some ⟨X + 1 + 1, 0, none⟩), u7, u8, u9, u10, u11, u12, .pointer (some ⟨G, 0, none⟩), u14, u15, u16, u17, u18, .pointer (some ⟨A, 0, none⟩), .string x.1, vO x, u22, u23, u24, u25, u26, u27, u28, u29, u30, u31, u32, u33, u34, u35, u36, u37, u38, u39, u40, u41, u42, u43, u44, u45, u46, u47, u48, u49, u50, u51, u52, u53, u54, u55, u56, u57, u58, u59, u60, u61, u62, u63, u64, u65, u66, u67, u68, u69, u70, u71, u72, u73, u74, u75, u76, u77, u78, u79, u80, u81, u82, u83, u84, u85, u86, u87, u88, u89, u90, u91, u92, u93, u94, u95, u96, u97, u98, u99, u100, u101, u102, u103, u104, u105, u106, u107, u108, u109, u110, u111, u112, u113, u114, u115, u116, u117, u118, u119, u120, u121, u122, u123, u124, u125, u126, u127, u128, u129, u130, u131, u132, u133, u134, u135, u136, u137, u138, u139, u140, u141, u142, u143, u144, u145, u146, u147, u148, u149, u150, u151, u152, u153, u154, u155, u156, u157], defers := [] } W := by
  subst hA
  cases good with
  | false => rw [hT] at hlen; simp at hlen
  | true =>
  obtain rfl : T = L := by simpa using hT
  have HEI : Hid (EI T w0 pre W) := hEI
  have hXl : X + 1 < w0.heap.size := lt_of_cell hbs
  have z1 : ¬ X + 1 = w0.heap.size := by omega
  have z2 : ¬ w0.heap.size = X + 1 := by omega
  clear hXl
  obtain ⟨⟨⟨hpre, hpl⟩, hci, hfi⟩, hB⟩ := hEI
  obtain ⟨k, hk⟩ : ∃ k, pre.length = k := ⟨_, rfl⟩
  rw [hk] at hpre hpl hci hlen
  have hlk : k < n := by omega
  have hlkI : ¬ ((n : Int) ≤ (k : Int)) := by omega
  have hlkB : (decide ((k : Int) ≥ n)) = false := decide_eq_false (by omega)
  obtain ⟨q, hq⟩ : ∃ q, T[k]? = some q := ⟨_, List.getElem?_eq_getElem hlen⟩
  obtain ⟨b, off, rfl, hp⟩ := hc k q hq
  obtain ⟨c0, c1, c2, c3⟩ := hp.below hB
  have hlb : W.cell? ⟨X, 0, none⟩ = some (.slice (some ⟨b, off, none⟩) n cap) := by rw [hB.cell (lt_of_cell hbl)]; exact hbl
  have hsb : W.cell? ⟨X + 1, 0, none⟩ = some (.int .i64 stop) := by rw [hB.cell (lt_of_cell hbs)]; exact hbs
  have hrb : W.cell? ⟨X + 1 + 1, 0, none⟩ = some (.bool false) := by rw [hB.cell (lt_of_cell hbr)]; exact hbr
  have hrf : W.frozen? ⟨X + 1 + 1, 0, none⟩ = false := by rw [hB.frozen (lt_of_cell hbr)]; exact hfr
  have hgb : W.cell? ⟨G, 0, none⟩ = some (.bool true) := by rw [hB.cell (lt_of_cell hbg)]; exact hbg
  have hq' : (T.map eK)[k]? = some (eK q) := by rw [List.getElem?_map, hq]; rfl
  have hsn : (T.map eK).take (k + 1) = pre.map eK ++ [eK q] := by rw [List.take_add_one, hq', ← hpre]; rfl
  have HX : Hid (∀ y, eK y ≠ eK q → ¬ (pre ++ [y]).map eK <+: T.map eK) := fun y hy h => by
    have h1 := List.prefix_iff_eq_take.1 h
    rw [List.length_map, List.length_append, hk, List.length_singleton, hsn, List.map_append] at h1
    have h2 := List.append_cancel_left h1
    exact hy (by simpa using h2)
  have HI : Hid ((T.map eK).take (k + 1) = pre.map eK ++ [eK q] ∧ k + 1 ≤ T.length ∧ pre.length = k) := ⟨hsn, hlen, hk⟩
  have cV := fun W => handValue_any q.2 W
  obtain ⟨e, he, hne⟩ := neq_vO x q
  obtain ⟨tx, vx, hx⟩ := vO_if x
  obtain ⟨tq, vq, hqv⟩ := vO_if q
  have HE : Hid (e = true ↔ vO x = vO q) := he
  have HQ : Hid (vO x = .iface tx vx ∧ vO q = .iface tq vq) := ⟨hx, hqv⟩
  have hval : valOf q.2.1 q.2.2.1 q.2.2.2 = .iface tq vq := hqv
  simp only [hval] at cV
  rw [hx, hqv] at hne
  rw [hx]
  obtain ⟨xk, xr⟩ := x
  obtain ⟨qk, qx, qn, qt⟩ := q
  simp only at c0 c1 c2 c3 cV
  clear hsn hq' hq hpre hpl hk hlen hc hp hbl hbs hbr hfr hbg hn hB hx hqv hval he hT
  delta Tryd.f3 at hcode
  simp only [rfBody, Option.bind_some, Option.some.injEq, Option.orElse] at hcode
  subst hcode
  have hd : 1 ≤ 3 := by decide
  have hmx : Tryd.prog.follows .mixedOrders = true := by kernel_rfl
  have hkk : (k : Int) + 1 ≤ 1048576 := by omega
  by_cases hkey : xk = qk
  · subst hkey
    have hkB := beq_key (x := xk) (y := xk) true (decide_eq_true rfl)
    cases e with
    | false =>
      have HN : Hid (vO (xk, xr) ≠ vO (xk, qx, qn, qt)) := fun h => by have := HE.out.2 h; cases this
      gi_wp2_with (refine ⟨trivial, ?_⟩; gi_at_call 16; refine (CallsIn.inRound l (callsIn_wide.2 (cV _))).mono ?_; rintro e w' ⟨rfl, hbw⟩; have hrb' := (hbw.cell (lt_of_cell hrb)).trans hrb; have hrf' := (hbw.frozen (lt_of_cell hrb)).trans hrf)
      exact ⟨(others_of_below hbw).trans (KeepsOthers.setCell _ _ _), .inr ⟨rfl, HX.out _ (fun h => HN.out (Prod.mk.inj h).2)⟩⟩
    | true =>
      have HV : Hid (eK (xk, xr) = eK (xk, qx, qn, qt)) := by
        show (xk, vO (xk, xr)) = (xk, vO (xk, qx, qn, qt))
        rw [HE.out.1 rfl]
      clear HX HE HQ
      by_cases hst : (k : Int) + 1 = stop
      · have hsB : ((k : Int) + 1 == stop) = true := by simpa using hst
        have HT : Hid ((k : Int) + 1 = stop) := hst
        clear hst
        gi_wp2_with (refine ⟨trivial, ?_⟩; gi_at_call 16; refine (CallsIn.inRound l (callsIn_wide.2 (cV _))).mono ?_; rintro e w' ⟨rfl, hbw⟩; have hci' := (hbw.cell (lt_of_cell hci)).trans hci; have hfi' := (hbw.frozen (lt_of_cell hci)).trans hfi; have hsb' := (hbw.cell (lt_of_cell hsb)).trans hsb)
        obtain ⟨q1, q2, q3⟩ := HI.out
        rw [← HV.out] at q1
        obtain ⟨g1, g2, g3⟩ := EI_step hbw HEI.out q1.symm q2 q3 rfl
        exact ⟨g1, .inl ⟨rfl, by rw [List.length_append, q3, List.length_singleton]; exact HT.out, g3⟩⟩
      · have hsB : ((k : Int) + 1 == stop) = false := by simpa using hst
        gi_wp2_with (refine ⟨trivial, ?_⟩; gi_at_call 16; refine (CallsIn.inRound l (callsIn_wide.2 (cV _))).mono ?_; rintro e w' ⟨rfl, hbw⟩; have hci' := (hbw.cell (lt_of_cell hci)).trans hci; have hfi' := (hbw.frozen (lt_of_cell hci)).trans hfi; have hsb' := (hbw.cell (lt_of_cell hsb)).trans hsb)
        obtain ⟨q1, q2, q3⟩ := HI.out
        rw [← HV.out] at q1
        exact EI_step hbw HEI.out q1.symm q2 q3 rfl
  · have hkB := beq_key (x := xk) (y := qk) false (decide_eq_false hkey)
    gi_wp2
    refine ⟨trivial, ?_⟩
    gi_wp2
    exact ⟨KeepsOthers.setCell _ _ _, .inr ⟨rfl, HX.out _ (fun h => hkey (Prod.mk.inj h).1)⟩⟩
end Go.Proofs.YtigmhbgdnmkooaaDoor

/- One round of AttrsAsks' outer loop, whatever marks are laid. -/
namespace Go.Proofs.YtigmhbgdnmkooaaDoor
open Go Go.RowKit Go.Lib Go.Shelf
set_option linter.unusedVariables false
attribute [local go_sem] Oper.semAt_some

/-- The first loop within a code, its body. -/
def lpBody : Code → Option Code
  | .loop c => some c
  | .seq a b => (lpBody a).orElse fun _ => lpBody b
  | .block _ c => lpBody c
  | _ => none
theorem box_new1 (w : World) (a b : Value) (ta : TypeId) (W1 W0 : World) (h1 : w.alloc (.cells #[a] ta) = W1) (h : W1.setCell ⟨w.heap.size, 0, none⟩ b = W0) :
    Below w.heap.size w W0 ∧ W0.heap.size = w.heap.size + 1 ∧ W0.cell? ⟨w.heap.size, 0, none⟩ = some b ∧ W0.frozen? ⟨w.heap.size, 0, none⟩ = false := by
  subst h1
  subst h
  exact ⟨((Below.refl _ w).alloc (Nat.le_refl _) _).setCell (p := ⟨w.heap.size, 0, none⟩) (Nat.le_refl _) _, by simp, World.cell?_setCell_same' _ _ _ (by simp), by rw [World.frozen?_setCell]; simp⟩

set_option maxHeartbeats 4000000 in
set_option maxRecDepth 100000 in
theorem asks_round (rc : Code) (hcode : (Tryd.f3.body).bind lpBody = some rc) (L : List A2) (good : Bool) (T : List A2) (hT : T = if good then L else []) (n : Nat) (hn : L.length = n) (hnl : n ≤ 1048576) (p : Option Addr) (cap X G Y B : Nat) (stop : Int) (w0 : World) (v8 : Value)
    (hc : ∀ j q, L[j]? = some q → ∃ b off, p = some ⟨b, off, none⟩ ∧ PairAt w0 b (off + j * 4) q)
    (hbl : w0.cell? ⟨X, 0, none⟩ = some (.slice p n cap)) (hbs : w0.cell? ⟨X + 1, 0, none⟩ = some (.int .i64 stop)) (hbr : w0.cell? ⟨X + 1 + 1, 0, none⟩ = some (.bool false)) (hfr : w0.frozen? ⟨X + 1 + 1, 0, none⟩ = false)
    (hbg : w0.cell? ⟨G, 0, none⟩ = some (.bool good)) (hY : TellAt w0 Y B T) (i : Int) (hi : i = 0 ∨ i = 1) (ds : List Deferred) (Q : Exit → Act → World → Prop)
    (hQ : ∀ (D : Nat) (W' : World), w0.heap.size ≤ D → W'.heap[D]? = some (.deferred (some [])) → Below w0.heap.size w0 W' → ∀ {x0 x1 x2 x4 x7 x9 x10 x11 x12 x14 x15 x16 x17 x19 x20 x21 x22 x23 x24 x25 x26 x27 x28 x29 x30 x31 x32 x33 x34 x35 x36 x37 x38 x39 x40 x41 x42 x43 x44 x45 x46 x47 x48 x49 x50 x51 x52 x53 x54 x55 x56 x57 x58 x59 x60 x61 x62 x63 x64 x65 x66 x67 x68 x69 x70 x71 x72 x73 x74 x75 x76 x77 x78 x79 x80 x81 x82 x83 x84 x85 x86 x87 x88 x89 x90 x91 x92 x93 x94 x95 x96 x97 x98 x99 x100 x101 x102 x103 x104 x106 x107 x108 x109 x110 x111 x112 x113 x114 x115 x116 x117 x118 x119 x120 x121 x122 x123 x124 x125 x126 x127 x128 x129 x130 x131 x132 x133 x134 x135 x136 x137 x138 x139 x140 x141 x142 x143 x144 x145 x146 x147 x148 x149 x150 x151 x152 x153 x154 x155 x156 x157 : Value}, Q .normal { tmps := #[x0, x1, x2, .pointer (some ⟨X, 0, none⟩), x4, .pointer (some ⟨X + 1, 0, none⟩), .pointer (some ⟨X + 1 + 1, 0, none⟩), x7, v8, x9, x10, x11, x12, .pointer (some ⟨G, 0, none⟩), x14, x15, x16, x17, .func (.func 48) #[] #[.pointer (some ⟨Y, 0, none⟩)], x19, x20, x21, x22, x23, x24, x25, x26, x27, x28, x29, x30, x31, x32, x33, x34, x35, x36, x37, x38, x39, x40, x41, x42, x43, x44, x45, x46, x47, x48, x49, x50, x51, x52, x53, x54, x55, x56, x57, x58, x59, x60, x61, x62, x63, x64, x65, x66, x67, x68, x69, x70, x71, x72, x73, x74, x75, x76, x77, x78, x79, x80, x81, x82, x83, x84, x85, x86, x87, x88, x89, x90, x91, x92, x93, x94, x95, x96, x97, x98, x99, x100, x101, x102, x103, x104, .int .i64 (i + 1), x106, x107, x108, x109, x110, x111, x112, x113, x114, x115, x116, x117, x118, x119, x120, x121, x122, x123, x124, x125, x126, x127, x128, x129, x130, x131, x132, x133, x134, x135, x136, x137, x138, x139, x140, x141, x142, x143, x144, x145, x146, x147, x148, x149, x150, x151, x152, x153, x154, x155, x156, x157], defers := { target := .collected D, args := #[] } :: ds } W')
    {u0 u1 u2 u4 u7 u9 u10 u11 u12 u14 u15 u16 u17 u19 u20 u21 u22 u23 u24 u25 u26 u27 u28 u29 u30 u31 u32 u33 u34 u35 u36 u37 u38 u39 u40 u41 u42 u43 u44 u45 u46 u47 u48 u49 u50 u51 u52 u53 u54 u55 u56 u57 u58 u59 u60 u61 u62 u63 u64 u65 u66 u67 u68 u69 u70 u71 u72 u73 u74 u75 u76 u77 u78 u79 u80 u81 u82 u83 u84 u85 u86 u87 u88 u89 u90 u91 u92 u93 u94 u95 u96 u97 u98 u99 u100 u101 u102 u103 u104 u106 u107 u108 u109 u110 u111 u112 u113 u114 u115 u116 u117 u118 u119 u120 u121 u122 u123 u124 u125 u126 u127 u128 u129 u130 u131 u132 u133 u134 u135 u136 u137 u138 u139 u140 u141 u142 u143 u144 u145 u146 u147 u148 u149 u150 u151 u152 u153 u154 u155 u156 u157 : Value} :
    rc.wpIn Fence.wide 5 Tryd.prog Q { tmps := #[u0, u1, u2, .pointer (some ⟨X, 0, none⟩), u4, .pointer (some ⟨X + 1, 0, none⟩), .pointer (some ⟨X + 1 + 1, 0, none⟩), u7, v8, u9, u10, u11, u12, .pointer (some ⟨G, 0, none⟩), u14, u15, u16, u17, .func (.func 48) #[] #[.pointer (some ⟨Y, 0, none⟩)], u19, u20, u21, u22, u23, u24, u25, u26, u27, u28, u29, u30, u31, u32, u33, u34, u35, u36, u37, u38, u39, u40, u41, u42, u43, u44, u45, u46, u47, u48, u49, u50, u51, u52, u53, u54, u55, u56, u57, u58, u59, u60, u61, u62, u63, u64, u65, u66, u67, u68, u69, u70, u71, u72, u73, u74, u75, u76, u77, u78, u79, u80, u81, u82, u83, u84, u85, u86, u87, u88, u89, u90, u91, u92, u93, u94, u95, u96, u97, u98, u99, u100, u101, u102, u103, u104, .int .i64 i, u106, u107, u108, u109, u110, u111, u112, u113, u114, u115, u116, u117, u118, u119, u120, u121, u122, u123, u124, u125, u126, u127, u128, u129, u130, u131, u132, u133, u134, u135, u136, u137, u138, u139, u140, u141, u142, u143, u144, u145, u146, u147, u148, u149, u150, u151, u152, u153, u154, u155, u156, u157], defers := ds } w0 := by
  delta Tryd.f3 at hcode
  simp only [lpBody, Option.bind_some, Option.some.injEq, Option.orElse] at hcode
  subst hcode
  have hiI : i < 2 := by omega
  have hwi : IntKind.i64.wrap (i + 1) = i + 1 := by rcases hi with rfl | rfl <;> decide
  have hTl : T.length ≤ 1048576 := by rw [hT]; split; omega; simp
  obtain ⟨W1, hW1⟩ : ∃ W1, w0.alloc (.cells #[.int .i64 0] 3) = W1 := ⟨_, rfl⟩
  obtain ⟨Wk, hWk⟩ : ∃ Wk, W1.setCell ⟨w0.heap.size, 0, none⟩ (.int .i64 0) = Wk := ⟨_, rfl⟩
  obtain ⟨hbk, hzk, hck, hfk⟩ := box_new1 w0 _ _ _ W1 Wk hW1 hWk
  have hq1 : W1.cell? ⟨w0.heap.size, 0, none⟩ = some (.int .i64 0) := by rw [← hW1]; simp
  have hq2 : W1.frozen? ⟨w0.heap.size, 0, none⟩ = false := by rw [← hW1]; simp
  gi_wp2
  clear hWk hW1 hq1 hq2
  have HZ : Hid (w0.heap.size ≤ Wk.heap.size) := (by rw [hzk]; omega : _ ≤ _)
  refine wpIn_rangeFunc_ownF rfl (by decide) (gf := 48) (lb := #[.pointer (some ⟨Y, 0, none⟩)]) rfl trivial (enters_of Tryd.func48 (by kernel_rfl) rfl)
    (eachA_stops T w0 Y B hY hTl _ (by decide) Wk hbk) belowK_t (belowK_b HZ.out) (Below.refl _ _) (fun _ => rfl)
    (EI T w0) (EX T w0 stop) (EI_own T w0 _ HZ.out) (fun c => EX_own T w0 stop _ HZ.out c) ⟨⟨⟨rfl, Nat.zero_le _⟩, hck, hfk⟩, hbk⟩ ?a1 ?assign ?body ?done ?stop
  case assign =>
    intro l x W K hK
    gi_wp2
    exact hK
  case body =>
    intro l pre x W hEI hlen
    exact asks_body _ rfl L good T hT n hn hnl p cap X G stop w0 hc hbl hbs hbr hfr hbg _ rfl l pre x W hEI hlen
  case' done =>
    rintro D xs W hD rfl hI hK
    obtain ⟨⟨_, hci, hfi⟩, hB⟩ := hI
  case' stop =>
    rintro D c pre W hD hSp hX hK
    obtain ⟨rfl, hst, hI⟩ := hX.resolve_right (fun h => h.2 (hSp.map _))
    obtain ⟨⟨⟨hpr, hpl⟩, hci, hfi⟩, hB⟩ := hI
    rw [hst] at hci
  all_goals
    have hD' : w0.heap.size ≤ D := Nat.le_trans HZ.out hD
    have hlb := (hB.cell (lt_of_cell hbl)).trans hbl
    have hsb := (hB.cell (lt_of_cell hbs)).trans hbs
    have hgb := (hB.cell (lt_of_cell hbg)).trans hbg
    clear hbl hbs hbr hfr hbg hc hY hck hfk hbk hzk
  case done =>
    cases good with
    | false =>
      gi_wp2
      exact hQ D W hD' hK hB
    | true =>
      obtain rfl : xs = L := by simpa using hT
      rw [hn] at hci
      clear hn hT
      gi_wp2
      exact hQ D W hD' hK hB
  case stop =>
    clear hpr hst hSp hX
    cases good with
    | false =>
      gi_wp2
      exact hQ D W hD' hK hB
    | true =>
      by_cases hmn : (n : Int) = stop
      · have hb1 : (stop != (n : Int)) = false := by simp [hmn]
        gi_wp2
        exact hQ D W hD' hK hB
      · have hb1 : (stop != (n : Int)) = true := by simp only [bne_iff_ne, ne_eq]; omega
        gi_wp2
        exact hQ D W hD' hK hB
end Go.Proofs.YtigmhbgdnmkooaaDoor

/- What vellumref03.put answers. -/
namespace Go.Proofs.YtigmhbgdnmkooaaDoor
open Go Go.RowKit Go.Lib
set_option linter.unusedVariables false

/-- A list with a key's value put in its place. -/
def putF (q : A2) : Bool → List A2 → List A2
  | done, [] => if done then [] else [q]
  | done, x :: r => (if !done && !decide (kc x.1 q.1 < 0) then [q] else []) ++ ((if x.1 = q.1 then [] else [x]) ++ putF q (done || !decide (kc x.1 q.1 < 0)) r)

set_option maxHeartbeats 8000000 in
set_option maxRecDepth 100000 in
theorem put_any (v : Value) (L : List A2) (q : A2) (w : World) (hv : RowA w v L) (hl : L.length ≤ 100000) :
    Calls Tryd.prog 44 #[v, atV q] w fun r w' => ∃ v', r = .returned v' ∧ OwnA w' w.heap.size v' (putF q false L) ∧ Below w.heap.size w w' := by
  obtain ⟨n, hn⟩ : ∃ n, L.length = n := ⟨_, rfl⟩
  obtain ⟨W0, hW0⟩ : ∃ W0, W0 = w.alloc (.cells #[.string q.1, .int .i64 q.2.1, .int .i64 q.2.2.1, .string q.2.2.2] 48) := ⟨_, rfl⟩
  have b0 : Below w.heap.size w W0 := by rw [hW0]; exact (Below.refl _ _).alloc (Nat.le_refl _) _
  have pQ : PairAt W0 w.heap.size 0 q := by rw [hW0]; exact ⟨by simp, by simp, by simp, by simp⟩
  obtain ⟨p, cap, rfl, hcap, hc⟩ := hv.below b0
  rw [hn] at hl hcap
  rw [show (Value.slice p L.length cap) = .slice p n cap by rw [hn]]
  have HN : Hid (L.length = n) := hn
  have HC : Hid _ := hc
  clear hc hn hv
  obtain ⟨qk, qx, qn, qt⟩ := q
  obtain ⟨PF, hPF⟩ : ∃ PF, putF (qk, qx, qn, qt) = PF := ⟨_, rfl⟩
  have oE := own_empty' W0 W0.heap.size (Nat.le_refl _)
  have bE := (Below.refl W0.heap.size W0).alloc (Nat.le_refl _) (.cells #[] 48)
  have HP : Hid (PairAt W0 w.heap.size 0 (qk, qx, qn, qt)) := pQ
  have HW : Hid (Below w.heap.size w W0) := b0
  simp only at hW0
  clear pQ b0
  go_enter Tryd.func44, Tryd.ntmps44
  go_wp2_with fail
  rw [← hW0]
  rw [show w.heap.size + 1 = W0.heap.size by rw [hW0]; simp]
  clear hW0
  obtain ⟨E, hE⟩ : ∃ E, w.heap.size = E := ⟨_, rfl⟩
  have HPF : Hid (putF (qk, qx, qn, qt) = PF) := hPF
  rw [hE] at HP ⊢
  obtain ⟨v0, hv0⟩ : ∃ v0 : Value, v0 = .slice (some ⟨W0.heap.size, 0, none⟩) 0 0 := ⟨_, rfl⟩
  rw [← hv0] at oE ⊢
  have HP0 : Hid (∀ D x r, PF D (x :: r) = (if !D && !decide (kc x.1 qk < 0) then [(qk, qx, qn, qt)] else []) ++ ((if x.1 = qk then [] else [x]) ++ PF (D || !decide (kc x.1 qk < 0)) r)) := fun D x r => by rw [← hPF, putF]
  have HP1 : Hid (∀ D, PF D [] = if D then [] else [(qk, qx, qn, qt)]) := fun D => by rw [← hPF, putF]
  clear hv0 hPF hE
  go_loopw [5, 6, 12] (fun out dn i wr => ∃ (k : Nat) (D : Bool) (O : List A2), k ≤ n ∧ i = .int .i64 k ∧ dn = .bool D ∧ OwnA wr W0.heap.size out O ∧ Below W0.heap.size W0 wr ∧ Hid (PF false L = O ++ PF D (L.drop k) ∧ O.length ≤ 2 * k)) (fun _ _ i _ => n - (RowKit.intOf i).toNat)
  case atStart => exact ⟨0, false, [], Nat.zero_le _, rfl, rfl, oE, bE, by simp, by simp⟩
  case round =>
    obtain ⟨k, D, O, hk, rfl, rfl, own, bw, H⟩ := hrel
    clear oE bE
    by_cases hlt : k < n
    · have hltI : (k : Int) < n := by omega
      obtain ⟨x, hx⟩ : ∃ q, L[k]? = some q := ⟨_, List.getElem?_eq_getElem (by rw [HN.out]; exact hlt)⟩
      obtain ⟨b, off, rfl, hp⟩ := HC.out k x hx
      obtain ⟨c0, c1, c2, c3⟩ := hp.below bw
      have HD : Hid (L.drop k = x :: L.drop (k + 1)) := drop_cons HN.out hlt hx
      obtain ⟨xk, xx, xn, xt⟩ := x
      simp only at c0 c1 c2 c3
      clear hp hx
      have hLn : Hid (O.length + 2 ≤ 2097152) := by show _ ≤ _; have := H.out.2; omega
      have H1 : Hid (PF false L = O ++ ((if !D && !decide (kc xk qk < 0) then [(qk, qx, qn, qt)] else []) ++ ((if xk = qk then [] else [(xk, xx, xn, xt)]) ++ PF (D || !decide (kc xk qk < 0)) (L.drop (k + 1)))) ∧ O.length ≤ 2 * k) := ⟨by rw [H.out.1, HD.out, HP0.out], H.out.2⟩
      have HO : Hid (OwnA wr W0.heap.size u5 O) := own
      clear H own
      go_upto_region 6 with fail
      obtain ⟨W3, hW3⟩ : ∃ W, W = wr.alloc (.cells #[.string xk, .int .i64 xx, .int .i64 xn, .string xt] 48) := ⟨_, rfl⟩
      have b3 : Below W0.heap.size W0 W3 := by rw [hW3]; exact bw.alloc bw.size _
      have pG : PairAt W3 wr.heap.size 0 (xk, xx, xn, xt) := by rw [hW3]; exact ⟨by simp, by simp, by simp, by simp⟩
      have O3 : Hid (OwnA W3 W0.heap.size u5 O) := by rw [hW3]; exact owns_below HO.out ((Below.refl _ _).alloc (Nat.le_refl _) _)
      have offG : Hid (∀ g, u5.ownBlock = some g → g ≠ wr.heap.size) := fun g hg => by
        obtain ⟨_, cur, hc⟩ := owns_block HO.out g hg
        have := (Array.getElem?_eq_some_iff.1 hc).1
        omega
      obtain ⟨G, hG⟩ : ∃ G, wr.heap.size = G := ⟨_, rfl⟩
      rw [hG] at pG offG ⊢
      rw [← hW3]
      clear hW3 hG HO c0 c1 c2 c3 bw
      have pE := HP.out.below b3
      obtain ⟨e0, e1, e2, e3⟩ := pE
      obtain ⟨d0, d1, d2, d3⟩ := pG
      rw [Nat.zero_add] at e1 e2 e3 d1 d2 d3
      simp only at e0 e1 e2 e3 d0 d1 d2 d3
      have PG : Hid (PairAt W3 G 0 (xk, xx, xn, xt)) := ⟨d0, by rw [Nat.zero_add]; exact d1, by rw [Nat.zero_add]; exact d2, by rw [Nat.zero_add]; exact d3⟩
      cases D with
      | true =>
        by_cases heq : xk = qk
        · have q2 := beq_key (x := xk) (y := qk) true (decide_eq_true heq)
          have HH : Hid (PF false L = O ++ PF true (L.drop (k + 1)) ∧ O.length ≤ 2 * (k + 1)) := ⟨by rw [H1.out.1]; simp [heq], by have := H1.out.2; omega⟩
          clear H1 heq
          go_wp2_with fail
          go_roundw
          case rel => exact ⟨k + 1, true, O, by omega, by go_num, rfl, O3.out, b3, HH.out⟩
          case measure => simp [RowKit.intOf]; omega
        · have q2 := beq_key (x := xk) (y := qk) false (decide_eq_false heq)
          have HH : Hid (PF false L = (O ++ [(xk, xx, xn, xt)]) ++ PF true (L.drop (k + 1)) ∧ (O ++ [(xk, xx, xn, xt)]).length ≤ 2 * (k + 1)) := ⟨by rw [H1.out.1]; simp [heq], by have := H1.out.2; simp; omega⟩
          clear H1 heq
          have o5 := owns_below O3.out ((Below.refl W3.heap.size W3).alloc (Nat.le_refl _) (.cells #[.string xk, .int .i64 xx, .int .i64 xn, .string xt] 48))
          have b5 := b3.alloc b3.size (.cells #[.string xk, .int .i64 xx, .int .i64 xn, .string xt] 48)
          have g5 : Hid (∀ j, u5.ownBlock = some j → W0.heap.size ≤ j) := fun j hj => (owns_block o5 j hj).1
          go_wp2_with (at_builtin; refine wpList_append_atx rfl (.tmp 34) (.tmp 36) rfl W0.heap.size u5 O rfl o5 W3.heap.size 0 1 1 [(xk, xx, xn, xt)] rfl rfl (one_at ⟨by simp, by simp, by simp, by simp⟩) (by have := hLn.out; simp; omega) b5.size ?_; intro v6 w6 own5 gr5 hat5)
          have B5 := b5.grown gr5 b5.size (fun j hj => g5.out j hj)
          go_roundw
          case rel => exact ⟨k + 1, true, _, by omega, by go_num, rfl, own5, B5, HH.out⟩
          case measure => simp [RowKit.intOf]; omega
      | false =>
        by_cases hlt2 : kc xk qk < 0
        · have q1 := fun t => geq_run (P := Tryd.prog) (t := t) xk qk false (by rw [decide_eq_true hlt2]; rfl)
          have hne : ¬ xk = qk := fun e => by rw [e, kc_self] at hlt2; omega
          have q2 := beq_key (x := xk) (y := qk) false (decide_eq_false hne)
          have HH : Hid (PF false L = (O ++ [(xk, xx, xn, xt)]) ++ PF false (L.drop (k + 1)) ∧ (O ++ [(xk, xx, xn, xt)]).length ≤ 2 * (k + 1)) := ⟨by rw [H1.out.1]; simp [hne, hlt2], by have := H1.out.2; simp; omega⟩
          clear H1 hne hlt2
          have o5 := owns_below O3.out ((Below.refl W3.heap.size W3).alloc (Nat.le_refl _) (.cells #[.string xk, .int .i64 xx, .int .i64 xn, .string xt] 48))
          have b5 := b3.alloc b3.size (.cells #[.string xk, .int .i64 xx, .int .i64 xn, .string xt] 48)
          have g5 : Hid (∀ j, u5.ownBlock = some j → W0.heap.size ≤ j) := fun j hj => (owns_block o5 j hj).1
          go_wp2_with (at_builtin; refine wpList_append_atx rfl (.tmp 34) (.tmp 36) rfl W0.heap.size u5 O rfl o5 W3.heap.size 0 1 1 [(xk, xx, xn, xt)] rfl rfl (one_at ⟨by simp, by simp, by simp, by simp⟩) (by have := hLn.out; simp; omega) b5.size ?_; intro v6 w6 own5 gr5 hat5)
          have B5 := b5.grown gr5 b5.size (fun j hj => g5.out j hj)
          go_roundw
          case rel => exact ⟨k + 1, false, _, by omega, by go_num, rfl, own5, B5, HH.out⟩
          case measure => simp [RowKit.intOf]; omega
        · have q1 := fun t => geq_run (P := Tryd.prog) (t := t) xk qk true (by rw [decide_eq_false hlt2]; rfl)
          have H2 : Hid (PF false L = (O ++ [(qk, qx, qn, qt)]) ++ ((if xk = qk then [] else [(xk, xx, xn, xt)]) ++ PF true (L.drop (k + 1))) ∧ (O ++ [(qk, qx, qn, qt)]).length ≤ 2 * k + 1) := ⟨by rw [H1.out.1]; simp [hlt2], by have := H1.out.2; simp; omega⟩
          clear H1 hlt2
          have hPW : Hid (Below W0.heap.size W0 W3) := b3
          have o5 := owns_below O3.out ((Below.refl W3.heap.size W3).alloc (Nat.le_refl _) (.cells #[.string qk, .int .i64 qx, .int .i64 qn, .string qt] 48))
          have b5 := b3.alloc b3.size (.cells #[.string qk, .int .i64 qx, .int .i64 qn, .string qt] 48)
          have g5 : Hid (∀ j, u5.ownBlock = some j → W0.heap.size ≤ j) := fun j hj => (owns_block o5 j hj).1
          by_cases heq : xk = qk
          · have q2 := beq_key (x := xk) (y := qk) true (decide_eq_true heq)
            have HH : Hid (PF false L = (O ++ [(qk, qx, qn, qt)]) ++ PF true (L.drop (k + 1)) ∧ (O ++ [(qk, qx, qn, qt)]).length ≤ 2 * (k + 1)) := ⟨by rw [H2.out.1]; simp [heq], by have := H2.out.2; omega⟩
            clear H2 heq
            go_wp2_with (at_builtin; refine wpList_append_atx rfl (.tmp 25) (.tmp 27) rfl W0.heap.size u5 O rfl o5 W3.heap.size 0 1 1 [(qk, qx, qn, qt)] rfl rfl (one_at ⟨by simp, by simp, by simp, by simp⟩) (by have := hLn.out; simp; omega) b5.size ?_; intro v6 w6 own5 gr5 hat5; have B5 := b5.grown gr5 b5.size (fun j hj => g5.out j hj); have pG6 := PairAt.grown (PG.out.below ((Below.refl W3.heap.size W3).alloc (Nat.le_refl _) (.cells #[.string qk, .int .i64 qx, .int .i64 qn, .string qt] 48))) gr5 (fun e => offG.out G e.symm rfl); have pE6 := HP.out.below B5; have O6 : Hid (OwnA w6 W0.heap.size v6 (O ++ [(qk, qx, qn, qt)])) := own5; clear e0 e1 e2 e3 d0 d1 d2 d3; obtain ⟨e0, e1, e2, e3⟩ := pE6; obtain ⟨d0, d1, d2, d3⟩ := pG6; rw [Nat.zero_add] at e1 e2 e3 d1 d2 d3; simp only at e0 e1 e2 e3 d0 d1 d2 d3; clear own5 gr5 hat5 o5 b5 g5)
            go_roundw
            case rel => exact ⟨k + 1, true, _, by omega, by go_num, rfl, O6.out, B5, HH.out⟩
            case measure => simp [RowKit.intOf]; omega
          · have q2 := beq_key (x := xk) (y := qk) false (decide_eq_false heq)
            have HH : Hid (PF false L = ((O ++ [(qk, qx, qn, qt)]) ++ [(xk, xx, xn, xt)]) ++ PF true (L.drop (k + 1)) ∧ ((O ++ [(qk, qx, qn, qt)]) ++ [(xk, xx, xn, xt)]).length ≤ 2 * (k + 1)) := ⟨by rw [H2.out.1]; simp [heq], by have := H2.out.2; rw [List.length_append]; simp only [List.length_singleton]; omega⟩
            clear H2 heq
            go_wp2_with (first | (at_builtin; refine wpList_append_atx rfl (.tmp 25) (.tmp 27) rfl W0.heap.size u5 O rfl o5 W3.heap.size 0 1 1 [(qk, qx, qn, qt)] rfl rfl (one_at ⟨by simp, by simp, by simp, by simp⟩) (by have := hLn.out; simp; omega) b5.size ?_; intro v6 w6 own5 gr5 hat5; have B5 := b5.grown gr5 b5.size (fun j hj => g5.out j hj); have pG6 := PairAt.grown (PG.out.below ((Below.refl W3.heap.size W3).alloc (Nat.le_refl _) (.cells #[.string qk, .int .i64 qx, .int .i64 qn, .string qt] 48))) gr5 (fun e => offG.out G e.symm rfl); have pE6 := HP.out.below B5; have O6 : Hid (OwnA w6 W0.heap.size v6 (O ++ [(qk, qx, qn, qt)])) := own5; clear e0 e1 e2 e3 d0 d1 d2 d3; obtain ⟨e0, e1, e2, e3⟩ := pE6; obtain ⟨d0, d1, d2, d3⟩ := pG6; rw [Nat.zero_add] at e1 e2 e3 d1 d2 d3; simp only at e0 e1 e2 e3 d0 d1 d2 d3; clear own5 gr5 hat5 o5 b5 g5; have o7 := owns_below O6.out ((Below.refl w6.heap.size w6).alloc (Nat.le_refl _) (.cells #[.string xk, .int .i64 xx, .int .i64 xn, .string xt] 48)); have b7 := B5.alloc B5.size (.cells #[.string xk, .int .i64 xx, .int .i64 xn, .string xt] 48); have g7 : Hid (∀ j, v6.ownBlock = some j → W0.heap.size ≤ j) := (fun j hj => (owns_block o7 j hj).1)) | (at_builtin; refine wpList_append_atx rfl (.tmp 34) (.tmp 36) rfl W0.heap.size v6 (O ++ [(qk, qx, qn, qt)]) rfl o7 w6.heap.size 0 1 1 [(xk, xx, xn, xt)] rfl rfl (one_at ⟨by simp, by simp, by simp, by simp⟩) (by have := hLn.out; simp; omega) b7.size ?_; intro v8 w8 own7 gr7 hat7; have B7 := b7.grown gr7 b7.size (fun j hj => g7.out j hj)))
            go_roundw
            case rel => exact ⟨k + 1, true, _, by omega, by go_num, rfl, own7, B7, HH.out⟩
            case measure => simp [RowKit.intOf]; omega
    · have hltI : ¬ (k : Int) < n := by omega
      have HO : Hid (OwnA wr W0.heap.size u5 O) := own
      have H1 : Hid (PF false L = O ++ PF D [] ∧ O.length ≤ 2 * k) := ⟨by rw [H.out.1, List.drop_of_length_le (by rw [HN.out]; omega)], H.out.2⟩
      clear own H
      cases D with
      | true =>
        go_wp2
        go_ret
        have he : putF (qk, qx, qn, qt) false L = O := by rw [HPF.out, H1.out.1, HP1.out]; simp
        exact ⟨u5, rfl, by rw [he]; exact own_weaken HO.out HW.out.size, HW.out.trans (bw.mono HW.out.size)⟩
      | false =>
        have hLn : Hid (O.length + 2 ≤ 2097152) := by show _ ≤ _; have := H1.out.2; omega
        have pE := HP.out.below bw
        obtain ⟨e0, e1, e2, e3⟩ := pE
        rw [Nat.zero_add] at e1 e2 e3
        simp only at e0 e1 e2 e3
        have o5 := owns_below HO.out ((Below.refl wr.heap.size wr).alloc (Nat.le_refl _) (.cells #[.string qk, .int .i64 qx, .int .i64 qn, .string qt] 48))
        have b5 := bw.alloc bw.size (.cells #[.string qk, .int .i64 qx, .int .i64 qn, .string qt] 48)
        have g5 : Hid (∀ j, u5.ownBlock = some j → W0.heap.size ≤ j) := fun j hj => (owns_block o5 j hj).1
        go_wp2_with (at_builtin; refine wpList_append_atx rfl (.tmp 41) (.tmp 43) rfl W0.heap.size u5 O rfl o5 wr.heap.size 0 1 1 [(qk, qx, qn, qt)] rfl rfl (one_at ⟨by simp, by simp, by simp, by simp⟩) (by have := hLn.out; simp; omega) b5.size ?_; intro v6 w6 own5 gr5 hat5; have B5 := b5.grown gr5 b5.size (fun j hj => g5.out j hj); have O6 : Hid (OwnA w6 W0.heap.size v6 (O ++ [(qk, qx, qn, qt)])) := own5; clear own5)
        go_ret
        have he : putF (qk, qx, qn, qt) false L = O ++ [(qk, qx, qn, qt)] := by rw [HPF.out, H1.out.1, HP1.out]; simp
        exact ⟨v6, rfl, by rw [he]; exact own_weaken O6.out HW.out.size, HW.out.trans (B5.mono HW.out.size)⟩
end Go.Proofs.YtigmhbgdnmkooaaDoor

/- What vellumref03.Of answers. -/
namespace Go.Proofs.YtigmhbgdnmkooaaDoor
open Go Go.RowKit Go.Lib
set_option linter.unusedVariables false

def ofE : List A2 → Nat
  | [] => 0
  | q :: r => if pairE q = 0 then ofE r else pairE q
def ofL (L : List A2) : List A2 := L.foldl (fun o q => putF q false o) []
theorem putF_len (q : A2) : ∀ (D : Bool) (L : List A2), (putF q D L).length ≤ L.length + (if D then 0 else 1)
  | D, [] => by cases D <;> simp [putF]
  | D, x :: r => by
    have ih := putF_len q (D || !decide (kc x.1 q.1 < 0)) r
    rw [putF]
    simp only [List.length_append, List.length_cons]
    have h1 : (if x.1 = q.1 then [] else [x] : List A2).length ≤ 1 := by split <;> simp
    cases D with
    | true => simp at ih ⊢; omega
    | false =>
      cases hd : decide (kc x.1 q.1 < 0) with
      | true => simp [hd] at ih ⊢; omega
      | false => simp [hd] at ih ⊢; omega
theorem ofL_len : ∀ (L : List A2) (O : List A2), (L.foldl (fun o q => putF q false o) O).length ≤ O.length + L.length
  | [], O => by simp
  | q :: r, O => by
    have h1 := ofL_len r (putF q false O)
    have h2 := putF_len q false O
    simp only [List.foldl_cons, List.length_cons]
    simp at h2
    omega
theorem ofL_step {L : List A2} {k : Nat} {q : A2} (hq : L[k]? = some q) : ofL (L.take (k + 1)) = putF q false (ofL (L.take k)) := by
  unfold ofL
  rw [List.take_add_one, hq, List.foldl_append]
  rfl

set_option maxHeartbeats 4000000 in
set_option maxRecDepth 100000 in
theorem refOf_any {I : List Nat} {a : Nat → Addr} (v : Value) (L : List A2) (w : World) (hS : Std I a w) (hv : RowA w v L) (hs : Tiny L) (hl : L.length ≤ 100000) :
    Calls Tryd.prog 12 #[v] w fun r w' => ∃ v', r = .returned (.tuple #[v', .int .i64 (ofE L)]) ∧ RowA w' v' (if ofE L = 0 then ofL L else []) ∧ Below w.heap.size w w' := by
  obtain ⟨n, hn⟩ : ∃ n, L.length = n := ⟨_, rfl⟩
  obtain ⟨p, cap, rfl, hcap, hc⟩ := hv
  rw [hn] at hl hcap ⊢
  have HN : Hid (L.length = n) := hn
  have HC : Hid _ := hc
  have HS : Hid (Std I a w) := hS
  have HZ : Hid (Tiny L) := hs
  obtain ⟨EE, hEE⟩ : ∃ EE, ofE L = EE := ⟨_, rfl⟩
  obtain ⟨RL, hRL⟩ : ∃ RL, (if ofE L = 0 then ofL L else []) = RL := ⟨_, rfl⟩
  have HR : Hid (ofE L = EE ∧ (if ofE L = 0 then ofL L else []) = RL) := ⟨hEE, hRL⟩
  rw [hRL, hEE]
  clear hc hS hs hn hRL hEE
  go_enter Tryd.func12, Tryd.ntmps12
  go_wp2
  go_loopw [12] (fun i wr => ∃ (k : Nat), k ≤ n ∧ i = .int .i64 k ∧ Below w.heap.size w wr ∧ Hid (ofE L = ofE (L.drop k))) (fun i _ => n - (RowKit.intOf i).toNat)
  case atStart => exact ⟨0, Nat.zero_le _, rfl, Below.refl _ _, by show _ = _; rw [List.drop_zero]⟩
  case round =>
    obtain ⟨k, hk, rfl, bw, H⟩ := hrel
    by_cases hlt : k < n
    · have hltI : (k : Int) < n := by omega
      obtain ⟨q, hq⟩ : ∃ q, L[k]? = some q := ⟨_, List.getElem?_eq_getElem (by rw [HN.out]; exact hlt)⟩
      obtain ⟨b, off, rfl, hp⟩ := HC.out k q hq
      obtain ⟨c0, c1, c2, c3⟩ := hp.below bw
      have hzs := HZ.out _ (List.mem_of_getElem? hq)
      have HD : Hid (L.drop k = q :: L.drop (k + 1)) := drop_cons HN.out hlt hq
      obtain ⟨qk, qx, qn, qt⟩ := q
      simp only at c0 c1 c2 c3 hzs
      have hb1 : Below w.heap.size w (wr.alloc (.cells #[.string qk, .int .i64 qx, .int .i64 qn, .string qt] 48)) := bw.alloc bw.size _
      have cP := ref_pair (qk, qx, qn, qt) _ (HS.out.below hb1) hzs.1 hzs.2
      have H1 : Hid (ofE L = if pairE (qk, qx, qn, qt) = 0 then ofE (L.drop (k + 1)) else pairE (qk, qx, qn, qt)) := by
        show _ = _
        rw [H.out, HD.out, ofE]
      obtain ⟨PE, hPE⟩ : ∃ PE, pairE (qk, qx, qn, qt) = PE := ⟨_, rfl⟩
      rw [hPE] at cP H1
      clear hzs hq hPE H hp
      go_wp2_with fail
      refine cP.mono ?_; rintro r w3 ⟨rfl, hb3⟩
      have hb4 := hb1.trans (hb3.mono hb1.size)
      clear cP hb3 hb1 c0 c1 c2 c3
      by_cases hE : PE = 0
      · have H2 : Hid (ofE L = ofE (L.drop (k + 1))) := by show _ = _; rw [H1.out, if_pos hE]
        have hx : ((PE : Int) != 0) = false := by rw [hE]; rfl
        clear H1 hE
        go_wp2
        go_roundw
        case rel => exact ⟨k + 1, by omega, by go_num, hb4, H2.out⟩
        case measure => simp [RowKit.intOf]; omega
      · have H2 : Hid (ofE L = PE ∧ PE ≠ 0) := ⟨by rw [H1.out, if_neg hE], hE⟩
        have hx : ((PE : Int) != 0) = true := by simp; omega
        clear H1 hE
        go_wp2
        go_ret2
        have h1 : EE = PE := by rw [← HR.out.1, H2.out.1]
        have h2 : RL = [] := by rw [← HR.out.2, if_neg (by rw [H2.out.1]; exact H2.out.2)]
        subst h1; subst h2
        exact ⟨.slice none 0 0, rfl, RowA.nil _ none 0, hb4⟩
    · have hltI : ¬ (k : Int) < n := by omega
      have H1 : Hid (ofE L = 0) := by
        show _ = _
        rw [H.out, List.drop_of_length_le (by rw [HN.out]; omega), ofE]
      clear H hlt
      go_wp2_with fail
      have rE : RowA (wr.alloc (.cells #[] 48)) (.slice (some ⟨wr.heap.size, 0, none⟩) 0 0) (ofL (L.take 0)) := RowA.nil _ _ _
      have bE := bw.alloc bw.size (.cells #[] 48)
      obtain ⟨v0, hv0⟩ : ∃ v0 : Value, v0 = .slice (some ⟨wr.heap.size, 0, none⟩) 0 0 := ⟨_, rfl⟩
      rw [← hv0] at rE ⊢
      obtain ⟨wE, hwE⟩ : ∃ W, W = wr.alloc (.cells #[] 48) := ⟨_, rfl⟩
      rw [← hwE] at rE bE ⊢
      clear hv0 hwE bw hk hltI
      go_loopw [7, 25] (fun out i wt => ∃ (k : Nat), k ≤ n ∧ i = .int .i64 k ∧ Below w.heap.size w wt ∧ Hid (RowA wt out (ofL (L.take k)))) (fun _ i _ => n - (RowKit.intOf i).toNat)
      case atStart => exact ⟨0, Nat.zero_le _, rfl, bE, rE⟩
      case round =>
        clear bE rE
        obtain ⟨k, hk, rfl, bw, H⟩ := hrel
        by_cases hlt : k < n
        · have hltI : (k : Int) < n := by omega
          obtain ⟨q, hq⟩ : ∃ q, L[k]? = some q := ⟨_, List.getElem?_eq_getElem (by rw [HN.out]; exact hlt)⟩
          obtain ⟨b, off, rfl, hp⟩ := HC.out k q hq
          obtain ⟨c0, c1, c2, c3⟩ := hp.below bw
          have HT := ofL_step hq
          obtain ⟨O, hO⟩ : ∃ O, ofL (L.take k) = O := ⟨_, rfl⟩
          have hOl : O.length ≤ 100000 := by
            have h1 := ofL_len (L.take k) []
            have h2 : (L.take k).length ≤ k := by rw [List.length_take]; omega
            have h3 : ofL (L.take k) = (L.take k).foldl (fun o q => putF q false o) [] := rfl
            rw [← h3, hO] at h1
            simp at h1
            omega
          rw [hO] at HT H
          obtain ⟨qk, qx, qn, qt⟩ := q
          simp only at c0 c1 c2 c3
          obtain ⟨pv, cv, rfl, _⟩ : ∃ p c, u7 = .slice p O.length c ∧ True := by
            obtain ⟨p, c, h1, _⟩ := H.out.val
            exact ⟨p, c, h1, trivial⟩
          have b1 : Below w.heap.size w (wr.alloc (.cells #[.string qk, .int .i64 qx, .int .i64 qn, .string qt] 48)) := bw.alloc bw.size _
          have cP := put_any _ O (qk, qx, qn, qt) (wr.alloc (.cells #[.string qk, .int .i64 qx, .int .i64 qn, .string qt] 48)) (H.out.below ((Below.refl _ _).alloc (Nat.le_refl _) _)) hOl
          have HT2 : Hid (ofL (L.take (k + 1)) = putF (qk, qx, qn, qt) false O) := HT
          clear HT hO hOl H hp hq
          generalize O.length = ol at *
          go_wp2_with fail
          refine cP.mono ?_; rintro r w3 ⟨v3, rfl, own, b3⟩
          have b4 := b1.trans (b3.mono b1.size)
          have R3 : Hid (RowA w3 v3 (ofL (L.take (k + 1)))) := by show RowA _ _ _; rw [HT2.out]; exact own_rowA own
          clear own b3 b1 cP c0 c1 c2 c3 bw
          go_wp2
          go_roundw
          case rel => exact ⟨k + 1, by omega, by go_num, b4, R3.out⟩
          case measure => simp [RowKit.intOf]; omega
        · have hltI : ¬ (k : Int) < n := by omega
          have h1 : EE = 0 := by rw [← HR.out.1, H1.out]
          have h2 : RL = ofL L := by rw [← HR.out.2, if_pos H1.out]
          have R2 : Hid (RowA wr u7 (ofL L)) := by
            have := H.out
            rwa [List.take_of_length_le (by rw [HN.out]; omega)] at this
          subst h1
          clear H
          go_wp2
          go_ret2
          exact ⟨_, rfl, by first | exact R2.out | (rw [h2]; exact R2.out), bw⟩
end Go.Proofs.YtigmhbgdnmkooaaDoor
