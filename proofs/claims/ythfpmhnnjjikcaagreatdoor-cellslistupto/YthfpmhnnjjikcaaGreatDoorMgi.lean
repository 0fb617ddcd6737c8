/- A piece cut in two. The Walker's calls. measure: Shift. The document's answers for ops: empty, Check, Length, apart. The document's answers for lists of operations: Bad, Lengths, Canonical. The document's Canonical. vellumlaw08: of, is, fixed. vellumlaw08: fixed answers true. The document's Base, Result, Inserted, Deleted, Document of layer 8. vellumref06.Canonical of a list whose lengths sum up to twice what a delta may have (a side's pieces). The document's deltas: Of. The document's deltas: Lengths, Long. The document's deltas: Long. vellumref06.Lengths and Long of well formed operations whose counts may be above the bound. -/
import Derived.Test.YthfpmhnnjjikcaaGreatDoorMgd
import Derived.Test.YthfpmhnnjjikcaaGreatDoorCf
import Derived.Test.YthfpmhnnjjikcaaGreatDoorCp
import Derived.BigRegion
import Derived.Deep.RegionHeld3
import Derived.Deep.DeepCutAuto
import Derived.Test.YthfpmhnnjjikcaaGreatDoorMge
import Derived.Test.YthfpmhnnjjikcaaGreatDoorMgf
import Derived.Deep.RegionWith
import Derived.Test.YthfpmhnnjjikcaaGreatDoorMgb
import Derived.Test.YthfpmhnnjjikcaaGreatDoorMgg
import Derived.Test.YthfpmhnnjjikcaaGreatDoorMgh

/- A piece cut in two. -/
namespace Go.Proofs.YthfpmhnnjjikcaaGreatDoor
open Go Go.RowKit Go.Lib
set_option linter.unusedVariables false

theorem heap_drw7 (W : World) (k : Nat) : W.drew.heap[k]? = W.heap[k]? := rfl
theorem box3 (w : World) (o : Array Value) (T : TypeId) (W : World) (hW : (((w.alloc (.cells o T)).alloc (.cells o T)).alloc (.cells o T)).drew = W) : W.heap[w.heap.size + 1]? = some (.cells o T (0, 0)) ∧ W.heap[w.heap.size + 1 + 1]? = some (.cells o T (0, 0)) ∧ Below (w.heap.size + 1) (w.alloc (.cells o T)) W := by
  subst hW
  have e1 := heap_alloc_new (w.alloc (.cells o T)) (.cells o T)
  have e2 := heap_alloc_new ((w.alloc (.cells o T)).alloc (.cells o T)) (.cells o T)
  simp only [World.size_alloc] at e1 e2
  refine ⟨?_, e2, ?_⟩
  · exact ((Below.refl ((w.alloc (.cells o T)).alloc (.cells o T)).heap.size _).alloc (Nat.le_refl _) _).block (w.heap.size + 1) (by simp) |>.trans e1
  · exact (((Below.refl (w.alloc (.cells o T)).heap.size _).alloc (Nat.le_refl _) _).alloc (by simp) _).drew.mono (by simp)
set_option maxHeartbeats 2000000 in
set_option maxRecDepth 100000 in
theorem cutText_any (p : Option Addr) (l c : Nat) (t : ByteArray) (N : Int) (A : List A2) (rs : List Nat) (m : Nat) (w : World) (hR : RN w (.slice p l c) A) (hl : A.length ≤ 2097152)
    (hv : t.data.toList = encs rs) (hs : ∀ r ∈ rs, scal r) (hm : m ≤ rs.length) (ht : t.size ≤ 8388608) (hrl : rs.length ≤ t.size) (hN : (m : Int) ≤ N) (hN2 : N ≤ 8388608) :
    Calls Tryz.prog 126 #[.agg #[.slice p l c, .string t, .int .i64 N], .int .i64 m] w fun r w' => ∃ p' c', r = .returned (.tuple #[.iface 188 (.agg #[.slice p' A.length c', .string (t.extract 0 (pos rs m)), .int .i64 m]), .iface 188 (.agg #[.slice p l c, .string (t.extract (pos rs m) t.size), .int .i64 (N - m)])]) ∧ OwnA w' w.heap.size (.slice p' A.length c') A ∧ Below w.heap.size w w' := by
  have cP := fun W => placeOf_any t rs m W hv hs hm (by omega) hrl
  have cA := fun W (hW : Below w.heap.size w W) => attributes_any (.slice p l c) A W (hR.below hW).row hR.nz hl
  have hpt : pos rs m ≤ t.size := by have := pos_le rs m; have := size_toList t; rw [hv] at this; omega
  obtain ⟨x, hx⟩ : ∃ x, pos rs m = x := ⟨_, rfl⟩
  rw [hx] at hpt
  simp only [hx] at cP ⊢
  clear hR hl hv hs hx hrl
  go_enter Tryz.func126, Tryz.ntmps126
  go_upto_region 1 with fail
  go_cut [6, 7] (fun x6 x7 wx => ∃ X Y, x6 = .pointer (some ⟨X, 0, none⟩) ∧ x7 = .pointer (some ⟨Y, 0, none⟩) ∧ X ≠ Y ∧ w.heap.size < X ∧ w.heap.size < Y ∧ wx.heap[X]? = some (.cells #[.slice p l c, .string t, .int .i64 N] 188 (0, 0)) ∧ wx.heap[Y]? = some (.cells #[.slice p l c, .string t, .int .i64 N] 188 (0, 0)) ∧ Below (w.heap.size + 1) (w.alloc (.cells #[.slice p l c, .string t, .int .i64 N] 188)) wx)
  case first =>
    go_region
    all_goals (try go_wp2)
    all_goals go_meet
    all_goals obtain ⟨h1, h2, hB⟩ := box3 w _ _ _ rfl
    · exact ⟨_, _, rfl, rfl, by omega, by omega, by omega, h1, h2, hB⟩
    · exact ⟨_, _, rfl, rfl, by omega, by omega, by omega, h2, h1, hB⟩
  case rest =>
    obtain ⟨X, Y, rfl, rfl, nXY, lX, lY, hX, hY, hB⟩ := hcut
    have hb0 : Below w.heap.size w wc := ((Below.refl _ w).alloc (Nat.le_refl _) _).trans (hB.mono (by omega))
    have k0 : wc.heap[w.heap.size]? = some (.cells #[.slice p l c, .string t, .int .i64 N] 188 (0, 0)) := (hB.block _ (by omega)).trans (heap_alloc_new w _)
    have zX := (Array.getElem?_eq_some_iff.1 hX).1
    have zY := (Array.getElem?_eq_some_iff.1 hY).1
    have d1 : wc.cell? ⟨w.heap.size, 1, none⟩ = some (.string t) := by rw [cell_of_heap k0]; rfl
    go_wp2_with fail
    refine (cP _).mono ?_; rintro r w2 ⟨rfl, hb2⟩
    have b2 := hb0.trans (hb2.mono hb0.size)
    have m0 := heap_below hb2 k0
    have mX := heap_below hb2 hX
    have mY := heap_below hb2 hY
    clear d1 k0 hX hY hb0
    have d0 : w2.cell? ⟨w.heap.size, 0, none⟩ = some (.slice p l c) := by rw [cell_of_heap m0]; rfl
    go_wp2_with fail
    refine (cA _ b2).mono ?_; rintro r w3 ⟨v', rfl, own3, hb3⟩
    obtain ⟨p', c', rfl⟩ := own_slice own3
    have b3 := b2.trans (hb3.mono b2.size)
    have q0 := heap_below hb3 m0
    have qX := heap_below hb3 mX
    have qY := heap_below hb3 mY
    have d1 : w3.cell? ⟨w.heap.size, 1, none⟩ = some (.string t) := by rw [cell_of_heap q0]; rfl
    have x0 : w3.cell? ⟨X, 0, none⟩ = some (.slice p l c) := by rw [cell_of_heap qX]; rfl
    have x1 : w3.cell? ⟨X, 1, none⟩ = some (.string t) := by rw [cell_of_heap qX]; rfl
    have x2 : w3.cell? ⟨X, 2, none⟩ = some (.int .i64 N) := by rw [cell_of_heap qX]; rfl
    have y0 : w3.cell? ⟨Y, 0, none⟩ = some (.slice p l c) := by rw [cell_of_heap qY]; rfl
    have y1 : w3.cell? ⟨Y, 1, none⟩ = some (.string t) := by rw [cell_of_heap qY]; rfl
    have y2 : w3.cell? ⟨Y, 2, none⟩ = some (.int .i64 N) := by rw [cell_of_heap qY]; rfl
    have g0 : w3.frozen? ⟨X, 0, none⟩ = false := frozen_of_heap qX 0
    have g1 : w3.frozen? ⟨X, 1, none⟩ = false := frozen_of_heap qX 1
    have g2 : w3.frozen? ⟨X, 2, none⟩ = false := frozen_of_heap qX 2
    have k1 : w3.frozen? ⟨Y, 1, none⟩ = false := frozen_of_heap qY 1
    have k2 : w3.frozen? ⟨Y, 2, none⟩ = false := frozen_of_heap qY 2
    have n1 : ¬ X = w.heap.size := by omega
    have n2 : ¬ w.heap.size = X := by omega
    have n3 : ¬ Y = w.heap.size := by omega
    have n4 : ¬ w.heap.size = Y := by omega
    have n5 : ¬ X = Y := nXY
    have n6 : ¬ Y = X := Ne.symm nXY
    have z1 : w.heap.size ≤ X := by omega
    have z2 : w.heap.size ≤ Y := by omega
    have z3 : w.heap.size ≤ w2.heap.size := b2.size
    have hxt : (x : Int) ≤ t.size := by omega
    have hs3 : Hid (OwnA w3 w.heap.size (.slice p' A.length c') A ∧ (∀ k, (Value.slice p' A.length c').ownBlock = some k → k ≠ X ∧ k ≠ Y)) := ⟨own_weaken own3 z3, fun k hk => by have h1 := (owns_block own3 k hk).1; have := (Array.getElem?_eq_some_iff.1 mX).1; have := (Array.getElem?_eq_some_iff.1 mY).1; omega⟩
    have HB3 : Hid (Below w.heap.size w w3) := b3
    clear q0 qX qY m0 mX mY own3 hb3 b3 b2 hb2 d0 lX lY nXY hB zX zY cP cA
    go_wp2
    go_region
    go_wp2
    go_region
    go_wp2
    go_ret2
    refine ⟨p', c', rfl, ?_, ?_⟩
    · exact owns_same hs3.out.1 (fun k hk => by
        obtain ⟨e1, e2⟩ := hs3.out.2 k hk
        repeat (with_reducible first | (refine (heap_drw7 _ _).trans ?_) | (refine (Below.heap_setCell _ _ _ _ e1).trans ?_) | (refine (Below.heap_setCell _ _ _ _ e2).trans ?_) | rfl))
    · repeat (with_reducible first | exact HB3.out | (refine Below.drew ?_) | (refine Below.setCell ?_ (p := ⟨X, _, none⟩) z1 _) | (refine Below.setCell ?_ (p := ⟨Y, _, none⟩) z2 _))
end Go.Proofs.YthfpmhnnjjikcaaGreatDoor

/- The Walker's calls. -/
namespace Go.Proofs.YthfpmhnnjjikcaaGreatDoor
open Go Go.RowKit Go.Lib
set_option linter.unusedVariables false

theorem as_i_e7 (v : Value) (W : World) : (Instr.typeAssert (.iface 188 v) 56 192 true).run Tryz.prog W = .ok (.tuple #[.agg #[.slice none 0 0, .string ⟨#[]⟩, .nilIface], .bool false]) W := by kernel_rfl
/-- What comes next. -/
def top7 : List Op5 → Op5
  | [] => pl7 1099511627776
  | x :: _ => x
theorem top_left (R : List Op5) : len5 (top7 R) = left7 R := by
  cases R with
  | nil => exact (pl_good (by omega) (by omega)).2
  | cons x r => rfl
theorem top_kind (R : List Op5) : (top7 R).k = kind7 R := by cases R <;> rfl
theorem top_good {R : List Op5} (h : ∀ o ∈ R, opE o = 0) : opE (top7 R) = 0 := by
  cases R with
  | nil => exact (pl_good (by omega) (by omega)).1
  | cons x r => exact h x (List.mem_cons_self ..)
theorem pieceQ_pl (n : Int) : pieceQ (pl7 n) (.slice none 0 0) = .iface 160 (.agg #[.slice none 0 0, .int .i64 n]) := pieceQ_3 rfl
set_option maxHeartbeats 2000000 in
set_option maxRecDepth 100000 in
theorem next7_any {B q g : Nat} {R : List Op5} (w : World) (h : WkV w B q g R) :
    Calls Tryz.prog 98 #[.pointer (some ⟨q, 0, none⟩)] w fun r w' => ∃ s, r = .returned (pieceQ (top7 R) s) ∧ OwnA w' B s (top7 R).A ∧ Below w.heap.size w w' := by
  have cD := doneW_any w h
  cases R with
  | nil =>
    rw [decide_eq_true rfl] at cD
    clear h
    go_enter Tryz.func98, Tryz.ntmps98
    go_wp2_with fail
    refine cD.mono ?_; rintro r w2 ⟨rfl, hb2⟩
    clear cD
    go_wp2
    go_ret
    exact ⟨.slice none 0 0, by rw [← pieceQ_pl]; rfl, World.ownsRow_nil _ _ _ _, hb2⟩
  | cons x r =>
    rw [decide_eq_false (List.cons_ne_nil _ _)] at cD
    obtain ⟨off, cap, s, c0, _, hc, c1, _, hs⟩ := h.read1
    have hl : (0 : Int) < ((r.length + 1 : Nat) : Int) := by omega
    obtain ⟨n, hn⟩ : ∃ n, r.length + 1 = n := ⟨_, rfl⟩
    obtain ⟨u, y, hux⟩ := pieceQ_if x s
    have HU : Hid (pieceQ x s = .iface u y) := hux
    rw [hux] at c1
    rw [hn] at c0 hl hc
    clear h hux hn
    go_enter Tryz.func98, Tryz.ntmps98
    go_wp2_with fail
    refine cD.mono ?_; rintro r w2 ⟨rfl, hb2⟩
    have d0 := (hb2.cell (lt_of_cell c0)).trans c0
    have d1 := (hb2.cell (lt_of_cell c1)).trans c1
    have HS : Hid (OwnA w2 B s x.A) := owns_below hs hb2
    clear cD c0 c1 hs
    go_wp2
    go_ret
    exact ⟨s, by rw [show top7 (x :: _) = x from rfl, HU.out]; rfl, HS.out, hb2⟩
set_option maxHeartbeats 2000000 in
set_option maxRecDepth 100000 in
theorem kindOf_any (o : Op5) (p : Option Addr) (l c : Nat) (w : World) (hg : opE o = 0) :
    Calls Tryz.prog 97 #[pieceQ o (.slice p l c)] w fun r w' => r = .returned (.int .i64 o.k) ∧ Below w.heap.size w w' := by
  rcases kinds_of hg with hk | hk | hk | hk
  · rw [pieceQ_1 hk, hk]
    have a0 := as_i_i
    obtain ⟨n, hn⟩ : ∃ n : Int, ((scs o.t.data.toList).length : Int) = n := ⟨_, rfl⟩
    rw [hn]
    clear hg hk hn
    go_enter Tryz.func97, Tryz.ntmps97
    go_wp2
    go_ret
    exact ⟨rfl, Below.refl _ _⟩
  · rw [pieceQ_2 hk, hk]
    have a0 := as_e_i
    have a1 := as_e_e
    obtain ⟨V, hV⟩ : ∃ V, valP o.v = V := ⟨_, rfl⟩
    rw [hV]
    clear hg hk hV
    go_enter Tryz.func97, Tryz.ntmps97
    go_wp2
    go_ret
    exact ⟨rfl, Below.refl _ _⟩
  · rw [pieceQ_3 hk, hk]
    have a0 := as_r_i
    have a1 := as_r_e6
    have a2 := as_r_d
    clear hg hk
    go_enter Tryz.func97, Tryz.ntmps97
    go_wp2
    go_ret
    exact ⟨rfl, Below.refl _ _⟩
  · rw [pieceQ_4 hk, hk]
    have a0 := as_d_i
    have a1 := as_d_e6
    have a2 := as_d_d
    clear hg hk
    go_enter Tryz.func97, Tryz.ntmps97
    go_wp2
    go_ret
    exact ⟨rfl, Below.refl _ _⟩
set_option maxHeartbeats 2000000 in
set_option maxRecDepth 100000 in
theorem inserts_any (o : Op5) (p : Option Addr) (l c : Nat) (w : World) (hg : opE o = 0) :
    Calls Tryz.prog 103 #[pieceQ o (.slice p l c)] w fun r w' => r = .returned (.bool (decide (o.k = 1 ∨ o.k = 2))) ∧ Below w.heap.size w w' := by
  rcases kinds_of hg with hk | hk | hk | hk
  · rw [pieceQ_1 hk, decide_eq_true (Or.inl hk)]
    have a0 := as_i_i
    have a1 := as_i_e7
    obtain ⟨n, hn⟩ : ∃ n : Int, ((scs o.t.data.toList).length : Int) = n := ⟨_, rfl⟩
    rw [hn]
    clear hg hk hn
    go_enter Tryz.func103, Tryz.ntmps103
    go_wp2
    go_ret
    exact ⟨rfl, Below.refl _ _⟩
  · rw [pieceQ_2 hk, decide_eq_true (Or.inr hk)]
    have a0 := as_e_i
    have a1 := as_e_e
    obtain ⟨V, hV⟩ : ∃ V, valP o.v = V := ⟨_, rfl⟩
    rw [hV]
    clear hg hk hV
    go_enter Tryz.func103, Tryz.ntmps103
    go_wp2
    go_ret
    exact ⟨rfl, Below.refl _ _⟩
  · rw [pieceQ_3 hk, decide_eq_false (by omega)]
    have a0 := as_r_i
    have a1 := as_r_e6
    clear hg hk
    go_enter Tryz.func103, Tryz.ntmps103
    go_wp2
    go_ret
    exact ⟨rfl, Below.refl _ _⟩
  · rw [pieceQ_4 hk, decide_eq_false (by omega)]
    have a0 := as_d_i
    have a1 := as_d_e6
    clear hg hk
    go_enter Tryz.func103, Tryz.ntmps103
    go_wp2
    go_ret
    exact ⟨rfl, Below.refl _ _⟩
set_option maxHeartbeats 2000000 in
set_option maxRecDepth 100000 in
theorem kind7_any {B q g : Nat} {R : List Op5} (w : World) (h : WkV w B q g R) (hg : ∀ o ∈ R, opE o = 0) :
    Calls Tryz.prog 64 #[.pointer (some ⟨q, 0, none⟩)] w fun r w' => r = .returned (.int .i64 (kind7 R)) ∧ Below w.heap.size w w' := by
  have cN := next7_any w h
  have cK := fun p l c W => kindOf_any (top7 R) p l c W (top_good hg)
  rw [top_kind] at cK
  have HI := fun s => pieceQ_if (top7 R) s
  obtain ⟨PQ, hPQ⟩ : ∃ f : Value → Value, pieceQ (top7 R) = f := ⟨_, rfl⟩
  rw [hPQ] at cN cK HI
  clear h hg hPQ
  go_enter Tryz.func64, Tryz.ntmps64
  go_wp2_with fail
  refine cN.mono ?_; rintro r w2 ⟨s, rfl, own, hb2⟩
  obtain ⟨p, c, rfl⟩ := own_slice own
  have cK' := cK p (top7 R).A.length c w2
  obtain ⟨u, x, hx⟩ := HI (.slice p (top7 R).A.length c)
  rw [hx] at cK' ⊢
  clear cN cK HI own hx
  go_wp2_with fail
  refine cK'.mono ?_; rintro r w3 ⟨rfl, hb3⟩
  have b3 := hb2.trans (hb3.mono hb2.size)
  go_wp2
  go_ret
  exact ⟨rfl, b3⟩
set_option maxHeartbeats 2000000 in
set_option maxRecDepth 100000 in
theorem left7_any {B q g : Nat} {R : List Op5} (w : World) (h : WkV w B q g R) (hg : ∀ o ∈ R, opE o = 0) :
    Calls Tryz.prog 65 #[.pointer (some ⟨q, 0, none⟩)] w fun r w' => r = .returned (.int .i64 (left7 R)) ∧ Below w.heap.size w w' := by
  have cN := next7_any w h
  have ht := top_good hg
  have hl := top_left R
  obtain ⟨T, hT⟩ : ∃ T, top7 R = T := ⟨_, rfl⟩
  rw [hT] at cN ht hl
  rw [← hl]
  have HI := fun s => pieceQ_if T s
  obtain ⟨PQ, hPQ⟩ : ∃ f : Value → Value, pieceQ T = f := ⟨_, rfl⟩
  have HPQ : Hid (pieceQ T = PQ) := hPQ
  rw [hPQ] at cN HI
  clear h hg hPQ hl hT
  go_enter Tryz.func65, Tryz.ntmps65
  go_wp2_with fail
  refine cN.mono ?_; rintro r w2 ⟨s, rfl, own, hb2⟩
  obtain ⟨u, x, hx⟩ := HI s
  have HX : Hid (pieceQ T s = .iface u x) := by show _ = _; rw [HPQ.out, hx]
  rw [hx]
  clear cN HI own hx
  go_wp2_with (refine wpList_lenP rfl (.tmp 4) rfl T s HX.out.symm ht ?_; intro w3 hb3; have b3 := hb2.trans (hb3.mono hb2.size))
  go_ret
  exact ⟨rfl, b3⟩
end Go.Proofs.YthfpmhnnjjikcaaGreatDoor

/- measure: Shift. -/
namespace Go.Proofs.YthfpmhnnjjikcaaGreatDoor
open Go Go.RowKit Go.Lib
set_option linter.unusedVariables false

/-- Does a shift keep the bound? -/
def FitSh (E : List Op5) (n : Int) : Prop := E = [] ∨ (n + sumB E ≤ 1099511627776 ∧ n + sumR E ≤ 1099511627776)
/-- What Shift answers. -/
def ShR (a : Nat → Addr) (w' : World) (E : List Op5) (n : Int) (dv er : Value) : Prop :=
  ((n < 0 ∨ 1099511627776 < n) → dv = .pointer none ∧ er = errV a 11) ∧
  (¬ (n < 0 ∨ 1099511627776 < n) → (FitSh E n → er = .nilIface ∧ ∃ C1 C2, DelV w' C1 C2 dv (shift8 E n)) ∧ (¬ FitSh E n → er = errV a 10 ∧ dv = .pointer none))
theorem pl_sums (n : Int) (E : List Op5) : sumB (pl7 n :: E) = n + sumB E ∧ sumR (pl7 n :: E) = n + sumR E := by
  rw [sumB_cons, sumR_cons, base_3 (.inl rfl), res_3 rfl]
  exact ⟨rfl, rfl⟩
theorem fits_sh {E : List Op5} {n : Int} (h0 : E ≠ []) : Fits8 (pl7 n :: E) ↔ FitSh E n := by
  obtain ⟨h1, h2⟩ := pl_sums n E
  unfold Fits8 FitSh
  rw [h1, h2]
  simp [h0]
theorem own_oneP (w : World) (B : Nat) {g : Nat} {V : Value} (h : w.heap[g]? = some (.cells #[V] 56 (0, 0))) (hB : B ≤ g) : OwnI w B (.slice (some ⟨g, 0, none⟩) 1 1) [V] :=
  ⟨rfl, Or.inr ⟨g, 1, #[V], rfl, hB, h, Nat.le_refl _, by unfold maxLen; omega, rfl, rfl⟩⟩
abbrev plV8 (n : Int) : Value := .iface 160 (.agg #[.slice none 0 0, .int .i64 n])
theorem pl_fit (n : Int) : FitA (pl7 n) := ⟨by show (0 : Nat) ≤ 1048576; decide, fun q hq => (by cases hq), by show (0 : Nat) ≤ 1048576; decide⟩
end Go.Proofs.YthfpmhnnjjikcaaGreatDoor

/- The document's answers for ops: empty, Check, Length, apart. -/
namespace Go.Proofs.YthfpmhnnjjikcaaGreatDoor
open Go Go.RowKit Go.Lib
set_option linter.unusedVariables false

/-- Are the fields empty that a kind doesn't have? -/
def emptyB (o : Op5) : Bool :=
  if o.k = 1 then o.c == 0 && decide (o.v = z0)
  else if o.k = 2 then o.c == 0
  else if o.k = 3 then o.t.toList.isEmpty && decide (o.v = z0)
  else if o.k = 4 then o.t.toList.isEmpty && decide (o.v = z0) && o.A.isEmpty
  else false
theorem opE_ref (o : Op5) : opE o = if emptyB o = false then 9 else if o.k = 1 ∨ o.k = 2 then insE o else if o.c < 1 then 9 else if 1099511627776 < o.c then 11 else if o.k = 3 then listE true none o.A else 0 := by
  unfold opE emptyB cntE
  by_cases k1 : o.k = 1
  · rw [if_pos (Or.inl k1), if_pos k1, if_pos (Or.inl k1)]
    by_cases hb : (o.c == 0 && decide (o.v = z0)) = false
    · rw [if_pos hb]
      have : fldE o = 9 := by
        unfold fldE
        rw [if_neg (fun h => h.1 k1), if_pos]
        by_cases hc : o.c = 0
        · by_cases hv : o.v = z0
          · simp [hc, hv] at hb
          · exact Or.inr ⟨k1, Or.inr hv⟩
        · exact Or.inl hc
      unfold insE
      rw [if_pos (by omega), this]
    · rw [if_neg hb]
  · by_cases k2 : o.k = 2
    · rw [if_pos (Or.inr k2), if_neg k1, if_pos k2, if_pos (Or.inr k2)]
      by_cases hb : (o.c == 0) = false
      · rw [if_pos hb]
        have : fldE o = 9 := by
          unfold fldE
          rw [if_neg (fun h => h.2 k2), if_pos]
          exact Or.inl (by simpa using hb)
        unfold insE
        rw [if_pos (by omega), this]
      · rw [if_neg hb]
    · have h12 : ¬ (o.k = 1 ∨ o.k = 2) := by omega
      rw [if_neg h12, if_neg k1, if_neg k2, if_neg h12]
      by_cases k3 : o.k = 3
      · rw [if_pos k3, if_pos k3, if_pos k3]
        cases ht : o.t.toList.isEmpty <;> by_cases hv : o.v = z0 <;> by_cases h1 : o.c < 1 <;> by_cases h2 : 1099511627776 < o.c <;> simp [hv, h1, h2]
      · rw [if_neg k3, if_neg k3, if_neg k3]
        by_cases k4 : o.k = 4
        · rw [if_pos k4, if_pos k4]
          cases ht : o.t.toList.isEmpty <;> by_cases hv : o.v = z0 <;> cases hA : o.A <;> by_cases h1 : o.c < 1 <;> by_cases h2 : 1099511627776 < o.c <;> simp [hv, h1, h2]
        · rw [if_neg k4, if_neg k4, if_pos rfl]

set_option maxHeartbeats 2000000 in
theorem refEmpty_any (o : Op5) (s : Value) (w : World) (hR : RowA w s o.A) :
    Calls Tryz.prog 92 #[opV o s] w fun r w' => r = .returned (.bool (emptyB o)) ∧ Below w.heap.size w w' := by
  have b0 := (Below.refl w.heap.size w).alloc (Nat.le_refl _) (.cells (opC o s) 33)
  obtain ⟨p, cc, rfl, _⟩ := hR.val
  clear hR
  obtain ⟨n9, hn9⟩ : ∃ m, o.A.length = m := ⟨_, rfl⟩
  have hAe : o.A.isEmpty = decide (n9 = 0) := by
    cases h : o.A with
    | nil => rw [h] at hn9; simp only [List.length_nil] at hn9; subst hn9; rfl
    | cons x r => rw [h] at hn9; simp only [List.length_cons] at hn9; rw [decide_eq_false (by omega)]; rfl
  have hnz : ((n9 : Int) == 0) = decide (n9 = 0) := by rw [Bool.eq_iff_iff]; simp
  rw [hn9] at b0 ⊢
  unfold emptyB
  rw [hAe]
  clear hAe hn9
  obtain ⟨k, t, ⟨x, n, u⟩, c, A⟩ := o
  simp only [opC] at b0 ⊢
  have gd := fun op x' y' w => guard_pl op x' y' (x, n, u) (0, 0, ⟨#[]⟩) w
  obtain ⟨bv, hbv⟩ : ∃ b, decide (((x, n, u) : P3) = z0) = b := ⟨_, rfl⟩
  have hne := eql_pl (x, n, u) (0, 0, ⟨#[]⟩) bv (by
    rw [← hbv]
    by_cases h : ((x, n, u) : P3) = z0
    · rw [decide_eq_true h, h]; exact samP_self _
    · rw [decide_eq_false h]; exact samP_ne h)
  rw [hbv]
  clear hbv
  by_cases k1 : k = 1
  · subst k1
    rw [if_pos rfl]
    clear hnz
    cases hc : (c == 0) with
    | false =>
      go_enter Tryz.func92, Tryz.ntmps92
      go_wp2
      go_ret
      exact ⟨rfl, b0⟩
    | true =>
      go_enter Tryz.func92, Tryz.ntmps92
      go_wp2
      go_ret
      exact ⟨rfl, b0⟩
  · have e1 : (k == 1) = false := by simpa using k1
    rw [if_neg k1]
    by_cases k2 : k = 2
    · subst k2
      rw [if_pos rfl]
      clear hnz hne gd
      go_enter Tryz.func92, Tryz.ntmps92
      go_wp2
      go_ret
      exact ⟨rfl, b0⟩
    · have e2 : (k == 2) = false := by simpa using k2
      rw [if_neg k2]
      by_cases k3 : k = 3
      · subst k3
        rw [if_pos rfl]
        clear hnz e1 e2
        cases ht : t.toList.isEmpty with
        | false =>
          go_enter Tryz.func92, Tryz.ntmps92
          go_wp2
          go_ret
          exact ⟨rfl, b0⟩
        | true =>
          go_enter Tryz.func92, Tryz.ntmps92
          go_wp2
          go_ret
          exact ⟨rfl, b0⟩
      · have e3 : (k == 3) = false := by simpa using k3
        rw [if_neg k3]
        by_cases k4 : k = 4
        · subst k4
          rw [if_pos rfl]
          clear e1 e2 e3
          cases ht : t.toList.isEmpty with
          | false =>
            go_enter Tryz.func92, Tryz.ntmps92
            go_wp2
            go_ret
            exact ⟨rfl, b0⟩
          | true =>
            cases bv with
            | false =>
              go_enter Tryz.func92, Tryz.ntmps92
              go_wp2
              go_ret
              exact ⟨rfl, b0⟩
            | true =>
              go_enter Tryz.func92, Tryz.ntmps92
              go_wp2
              go_ret
              exact ⟨rfl, b0⟩
        · have e4 : (k == 4) = false := by simpa using k4
          rw [if_neg k4]
          clear hnz hne gd
          go_enter Tryz.func92, Tryz.ntmps92
          go_wp2
          go_ret
          exact ⟨rfl, b0⟩

set_option maxHeartbeats 2000000 in
theorem refCheckO_any {I : List Nat} {a : Nat → Addr} (o : Op5) (s : Value) (w : World) (hS : Std I a w) (hR : RN w s o.A) (hF : Fit o) :
    Calls Tryz.prog 59 #[opV o s] w fun r w' => r = .returned (.int .i64 (opE o)) ∧ Below w.heap.size w w' := by
  have b0 := (Below.refl w.heap.size w).alloc (Nat.le_refl _) (.cells (opC o s) 33)
  have D0 := BoxO.new w o s
  have c1 := refEmpty_any o s _ (hR.row.below b0)
  have cI : Hid (∀ W, Below (w.alloc (.cells (opC o s) 33)).heap.size (w.alloc (.cells (opC o s) 33)) W → Calls Tryz.prog 93 #[opV o s] W fun r w' => r = .returned (.int .i64 (insE o)) ∧ Below W.heap.size W w') := fun W hW => ref_ins o s W ((hS.below b0).below hW) ((hR.below b0).below hW) hF
  have cA : Hid (∀ W, Below (w.alloc (.cells (opC o s) 33)).heap.size (w.alloc (.cells (opC o s) 33)) W → Calls Tryz.prog 94 #[s, .bool true] W fun r w' => r = .returned (.int .i64 (listE true none o.A)) ∧ Below W.heap.size W w') := fun W hW => ref_check s o.A true W ((hS.below b0).below hW) ((hR.row.below b0).below hW) hF.tiny (by have := hF.n; omega)
  have hE := opE_ref o
  obtain ⟨E, hEE⟩ : ∃ E, opE o = E := ⟨_, rfl⟩
  obtain ⟨i9, hi9⟩ : ∃ i, insE o = i := ⟨_, rfl⟩
  obtain ⟨l9, hl9⟩ : ∃ l, listE true none o.A = l := ⟨_, rfl⟩
  obtain ⟨eb, heb⟩ : ∃ l, emptyB o = l := ⟨_, rfl⟩
  rw [hEE, hi9, hl9, heb] at hE
  rw [hEE]
  rw [hi9] at cI
  rw [hl9] at cA
  rw [heb] at c1
  clear hS hR hF hEE hi9 hl9 heb
  have HD : Hid (BoxO (w.alloc (.cells (opC o s) 33)) w.heap.size o s) := D0
  obtain ⟨k, t, ⟨x, n, u⟩, c, A⟩ := o
  simp only [opC] at b0 c1 cI cA HD hE
  clear D0
  cases eb with
  | false =>
    rw [if_pos rfl] at hE
    subst hE
    clear cI cA HD
    go_enter Tryz.func59, Tryz.ntmps59
    go_wp2_with fail
    refine c1.mono ?_; rintro r w2 ⟨rfl, hb2⟩
    have b2 := b0.trans (hb2.mono b0.size)
    clear c1 b0 hb2
    go_wp2
    go_ret
    exact ⟨rfl, b2⟩
  | true =>
    rw [if_neg (by simp)] at hE
    by_cases k1 : k = 1
    · rw [if_pos (Or.inl k1)] at hE
      subst hE k1
      go_enter Tryz.func59, Tryz.ntmps59
      go_wp2_with fail
      refine c1.mono ?_; rintro r w2 ⟨rfl, hb2⟩
      have b2 := b0.trans (hb2.mono b0.size)
      obtain ⟨d0, d1, d2, d3, d4, d5, d6⟩ := HD.out.below hb2
      simp only at d0 d1 d2 d3 d4 d5 d6
      have c2 := cI.out _ hb2
      clear c1 b0 hb2
      go_wp2_with fail
      refine c2.mono ?_; rintro r w3 ⟨rfl, hb3⟩
      have b3 := b2.trans (hb3.mono b2.size)
      clear c2 b2 hb3
      go_wp2
      go_ret
      exact ⟨rfl, b3⟩
    · have e1 : (k == 1) = false := by simpa using k1
      by_cases k2 : k = 2
      · rw [if_pos (Or.inr k2)] at hE
        subst hE k2
        clear k1 e1
        go_enter Tryz.func59, Tryz.ntmps59
        go_wp2_with fail
        refine c1.mono ?_; rintro r w2 ⟨rfl, hb2⟩
        have b2 := b0.trans (hb2.mono b0.size)
        obtain ⟨d0, d1, d2, d3, d4, d5, d6⟩ := HD.out.below hb2
        simp only at d0 d1 d2 d3 d4 d5 d6
        have c2 := cI.out _ hb2
        clear c1 b0 hb2
        go_wp2_with fail
        refine c2.mono ?_; rintro r w3 ⟨rfl, hb3⟩
        have b3 := b2.trans (hb3.mono b2.size)
        clear c2 b2 hb3
        go_wp2
        go_ret
        exact ⟨rfl, b3⟩
      · have e2 : (k == 2) = false := by simpa using k2
        rw [if_neg (by omega)] at hE
        by_cases h1 : c < 1
        · rw [if_pos h1] at hE
          subst hE
          clear cI cA
          go_enter Tryz.func59, Tryz.ntmps59
          go_wp2_with fail
          refine c1.mono ?_; rintro r w2 ⟨rfl, hb2⟩
          have b2 := b0.trans (hb2.mono b0.size)
          obtain ⟨d0, d1, d2, d3, d4, d5, d6⟩ := HD.out.below hb2
          simp only at d0 d1 d2 d3 d4 d5 d6
          clear c1 b0 hb2
          go_wp2
          go_ret
          exact ⟨rfl, b2⟩
        · rw [if_neg h1] at hE
          by_cases h2 : 1099511627776 < c
          · rw [if_pos h2] at hE
            subst hE
            clear cI cA
            go_enter Tryz.func59, Tryz.ntmps59
            go_wp2_with fail
            refine c1.mono ?_; rintro r w2 ⟨rfl, hb2⟩
            have b2 := b0.trans (hb2.mono b0.size)
            obtain ⟨d0, d1, d2, d3, d4, d5, d6⟩ := HD.out.below hb2
            simp only at d0 d1 d2 d3 d4 d5 d6
            clear c1 b0 hb2
            go_wp2
            go_ret
            exact ⟨rfl, b2⟩
          · rw [if_neg h2] at hE
            by_cases k3 : k = 3
            · rw [if_pos k3] at hE
              subst hE k3
              clear cI k1 k2 e1 e2
              go_enter Tryz.func59, Tryz.ntmps59
              go_wp2_with fail
              refine c1.mono ?_; rintro r w2 ⟨rfl, hb2⟩
              have b2 := b0.trans (hb2.mono b0.size)
              obtain ⟨d0, d1, d2, d3, d4, d5, d6⟩ := HD.out.below hb2
              simp only at d0 d1 d2 d3 d4 d5 d6
              have c2 := cA.out _ hb2
              clear c1 b0 hb2
              go_wp2_with fail
              refine c2.mono ?_; rintro r w3 ⟨rfl, hb3⟩
              have b3 := b2.trans (hb3.mono b2.size)
              clear c2 b2 hb3
              go_wp2
              go_ret
              exact ⟨rfl, b3⟩
            · have e3 : (k == 3) = false := by simpa using k3
              rw [if_neg k3] at hE
              subst hE
              clear cI cA
              go_enter Tryz.func59, Tryz.ntmps59
              go_wp2_with fail
              refine c1.mono ?_; rintro r w2 ⟨rfl, hb2⟩
              have b2 := b0.trans (hb2.mono b0.size)
              obtain ⟨d0, d1, d2, d3, d4, d5, d6⟩ := HD.out.below hb2
              simp only at d0 d1 d2 d3 d4 d5 d6
              clear c1 b0 hb2
              go_wp2
              go_ret
              exact ⟨rfl, b2⟩
end Go.Proofs.YthfpmhnnjjikcaaGreatDoor

/- The document's answers for lists of operations: Bad, Lengths, Canonical. -/
namespace Go.Proofs.YthfpmhnnjjikcaaGreatDoor
open Go Go.RowKit Go.Lib
set_option linter.unusedVariables false
end Go.Proofs.YthfpmhnnjjikcaaGreatDoor

/- The document's Canonical. -/
namespace Go.Proofs.YthfpmhnnjjikcaaGreatDoor
open Go Go.RowKit Go.Lib
set_option linter.unusedVariables false
end Go.Proofs.YthfpmhnnjjikcaaGreatDoor

/- vellumlaw08: of, is, fixed. -/
namespace Go.Proofs.YthfpmhnnjjikcaaGreatDoor
open Go Go.RowKit Go.Lib
set_option linter.unusedVariables false

theorem Hid.mk8 {P : Prop} (h : P) : Hid P := h
theorem canB_can {E : List Op5} (h : canonB E = true) : CanO E ∧ Fits8 E ∧ ∀ o ∈ E, opE o = 0 := by
  obtain ⟨h1, h2, h3, h4, h5⟩ := canonB_iff.1 h
  exact ⟨⟨h1, h4, h5⟩, ⟨h2, h3⟩, wel_good h1 h2⟩
theorem can_canB {E : List Op5} (h : CanO E) (hf : Fits8 E) : canonB E = true := canonB_iff.2 ⟨h.wel, hf.1, hf.2, h.chain, h.last⟩
def fixA : List Op5 := [pl7 1, delO 2]
def fixB : List Op5 := [txtO ⟨#[120]⟩]
def fixC : List Op5 := [pl7 1, txtO ⟨#[120]⟩, delO 2]
def fixD : List Op5 := [pl7 4, delO 2]
theorem fix_nil : (∀ o ∈ fixA, o.A = []) ∧ (∀ o ∈ fixB, o.A = []) ∧ (∀ o ∈ fixC, o.A = []) ∧ ∀ o ∈ fixD, o.A = [] := by
  refine ⟨fun o ho => ?_, fun o ho => ?_, fun o ho => ?_, fun o ho => ?_⟩
  · simp only [fixA, List.mem_cons, List.not_mem_nil, or_false] at ho
    rcases ho with rfl | rfl <;> rfl
  · simp only [fixB, List.mem_cons, List.not_mem_nil, or_false] at ho
    subst ho; rfl
  · simp only [fixC, List.mem_cons, List.not_mem_nil, or_false] at ho
    rcases ho with rfl | rfl | rfl <;> rfl
  · simp only [fixD, List.mem_cons, List.not_mem_nil, or_false] at ho
    rcases ho with rfl | rfl <;> rfl
theorem fix_fitA : FitL fixA := fun o ho => fit_nil (by
  simp only [fixA, List.mem_cons, List.not_mem_nil, or_false] at ho
  rcases ho with rfl | rfl <;> decide) (by
  simp only [fixA, List.mem_cons, List.not_mem_nil, or_false] at ho
  rcases ho with rfl | rfl <;> decide) (fix_nil.1 o ho)
theorem fix_fitB : FitL fixB := fun o ho => fit_nil (by
  simp only [fixB, List.mem_cons, List.not_mem_nil, or_false] at ho
  subst ho; decide) (by
  simp only [fixB, List.mem_cons, List.not_mem_nil, or_false] at ho
  subst ho; decide) (fix_nil.2.1 o ho)
theorem fix_fitC : FitL fixC := fun o ho => fit_nil (by
  simp only [fixC, List.mem_cons, List.not_mem_nil, or_false] at ho
  rcases ho with rfl | rfl | rfl <;> decide) (by
  simp only [fixC, List.mem_cons, List.not_mem_nil, or_false] at ho
  rcases ho with rfl | rfl | rfl <;> decide) (fix_nil.2.2.1 o ho)
theorem fix_fitD : FitL fixD := fun o ho => fit_nil (by
  simp only [fixD, List.mem_cons, List.not_mem_nil, or_false] at ho
  rcases ho with rfl | rfl <;> decide) (by
  simp only [fixD, List.mem_cons, List.not_mem_nil, or_false] at ho
  rcases ho with rfl | rfl <;> decide) (fix_nil.2.2.2 o ho)
theorem fix_canA : canonB fixA = true := by kernel_rfl
theorem fix_canB : canonB fixB = true := by kernel_rfl
theorem fix_cat : canonL (fixA ++ fixB) = fixC := by kernel_rfl
theorem fix_sh : shift8 fixA 3 = fixD := by
  have e : shift8 fixA 3 = canonL (pl7 3 :: fixA) := if_neg (by simp [fixA])
  exact e.trans (by kernel_rfl)
theorem fix_num : sumB fixA = 3 ∧ sumR fixA = 1 ∧ sumD8 fixA = 2 ∧ sumI8 fixB = 1 ∧ sumB fixB = 0 := by decide
theorem fix_fits : Fits8 (fixA ++ fixB) ∧ FitSh fixA 3 := by
  refine ⟨by unfold Fits8; decide, Or.inr (by decide)⟩
end Go.Proofs.YthfpmhnnjjikcaaGreatDoor

/- vellumlaw08: fixed answers true. -/
namespace Go.Proofs.YthfpmhnnjjikcaaGreatDoor
open Go Go.RowKit Go.Lib
set_option linter.unusedVariables false

/-- The errors that the laws ask for. -/
def IR8 : List Nat := 11 :: IxO
theorem ir8 {I : List Nat} (h : ∀ i ∈ IR8, i ∈ I) : (∀ i ∈ IxO, i ∈ I) ∧ 11 ∈ I := ⟨fun i hi => h i (List.mem_cons_of_mem _ hi), h 11 (List.mem_cons_self ..)⟩
end Go.Proofs.YthfpmhnnjjikcaaGreatDoor

/- The document's Base, Result, Inserted, Deleted, Document of layer 8. -/
namespace Go.Proofs.YthfpmhnnjjikcaaGreatDoor
open Go Go.RowKit Go.Lib
set_option linter.unusedVariables false

theorem lensL_ok8 {E : List Op5} (hg : ∀ o ∈ E, opE o = 0) (hf : Fits8 E) : lensL E = (sumB E, sumR E, 0) := by
  unfold lensL
  rw [bad_none hg, if_neg (by simp), sumL_ok (fun o ho => wel_of (hg o ho)) ⟨by have := hf.1; omega, by have := hf.2; omega⟩]
  simp
/-- What the reference reads. -/
structure RfE (w : World) (v : Value) (E : List Op5) : Prop where
  re : ReO w v E
  g : ∀ o ∈ E, opE o = 0
  fit : FitL E
  len : E.length ≤ 1048576
  fits : Fits8 E
theorem RfE.below {w w' : World} {v : Value} {E : List Op5} (h : RfE w v E) (b : Below w.heap.size w w') : RfE w' v E := ⟨h.re.below b, h.g, h.fit, h.len, h.fits⟩
theorem RfE.sl {w : World} {v : Value} {E : List Op5} (h : RfE w v E) : ∃ p c, v = .slice p E.length c := by
  obtain ⟨D, ⟨p, cap, rfl, _⟩, hre⟩ := h.re
  exact ⟨p, cap, by rw [forall2_len hre]⟩
theorem sumI8_snoc (F : List Op5) (o : Op5) : sumI8 (F ++ [o]) = sumI8 F + insO8 o := by simp [sumI8]
theorem sumD8_snoc (F : List Op5) (o : Op5) : sumD8 (F ++ [o]) = sumD8 F + dlO8 o := by simp [sumD8]
theorem sums_take8 {E : List Op5} (hw : ∀ o ∈ E, Wel o) (hf : Fits8 E) (k : Nat) : (0 ≤ sumI8 (E.take k) ∧ sumI8 (E.take k) ≤ 1099511627776) ∧ (0 ≤ sumD8 (E.take k) ∧ sumD8 (E.take k) ≤ 1099511627776) := by
  have h1 := fits_front (E := E.take k) (F := E.drop k) (fun o ho => hw o (List.mem_of_mem_drop ho)) (by rw [List.take_append_drop]; exact hf)
  have h2 := sums_three (E := E.take k) (fun o ho => hw o (List.mem_of_mem_take ho))
  unfold Fits8 at h1
  omega
/-- One operation of a row that is read. -/
theorem RfE.at' {w : World} {p : Option Addr} {n c : Nat} {E : List Op5} (h : RfE w (.slice p n c) E) {k : Nat} (hk : k < n) : E.length = n ∧ n ≤ c ∧ ∃ e b off sp sc, E[k]? = some e ∧ p = some ⟨b, off, none⟩ ∧ OpAt w b (off + k * 7) (e.k, e.t, e.v, e.c, sp, e.A.length, sc) ∧ RN w (.slice sp e.A.length sc) e.A ∧ opE e = 0 ∧ Fit e := by
  obtain ⟨D, ⟨q, cap, hv, hl, _, hc⟩, hre⟩ := h.re
  simp only [Value.slice.injEq] at hv
  obtain ⟨rfl, hnl, rfl⟩ := hv
  have hD := forall2_len hre
  refine ⟨by omega, by omega, ?_⟩
  obtain ⟨d, hd⟩ : ∃ d, D[k]? = some d := ⟨_, List.getElem?_eq_getElem (by omega)⟩
  obtain ⟨y, hy, h1, h2, h3, h4, h5⟩ := forall2_get hre k d hd
  obtain ⟨b, off, e1, e2⟩ := hc k d hd
  obtain ⟨dk, dt, dv, dc, dp, dl, dcap⟩ := d
  obtain ⟨q', c', e3, _⟩ := h5.row.val
  simp only at h1 h2 h3 h4
  simp only [slV, Value.slice.injEq] at e3
  obtain ⟨rfl, rfl, rfl⟩ := e3
  subst h1; subst h2; subst h3; subst h4
  exact ⟨y, b, off, dp, dcap, hy, e1, e2, h5, h.g y (List.mem_of_getElem? hy), h.fit y (List.mem_of_getElem? hy)⟩
end Go.Proofs.YthfpmhnnjjikcaaGreatDoor

/- vellumref06.Canonical of a list whose lengths sum up to twice what a delta may have (a side's pieces). -/
namespace Go.Proofs.YthfpmhnnjjikcaaGreatDoor
open Go Go.RowKit Go.Lib
set_option linter.unusedVariables false

structure OkW (E : List Op5) : Prop where
  good : ∀ o ∈ E, opE o = 0
  fit : ∀ o ∈ E, FitA o
  txt : txtS E ≤ 8388608
  len : E.length ≤ 4194304
  base : sumB E ≤ 2199023255552
theorem OkW.wel {E : List Op5} (h : OkW E) : ∀ o ∈ E, Wel o := fun o ho => wel_of (h.good o ho)
theorem runQ_takeW {E : List Op5} (h : OkW E) : ∀ k, k ≤ E.length → RunQ (E.take k) (runC (E.take k)) := fun k => by
  induction k with
  | zero => intro _; rw [List.take_zero]; exact RunQ.nil
  | succ k ih =>
    intro hk
    have he : E[k]? = some E[k] := List.getElem?_eq_getElem (by omega)
    have hm : E[k] ∈ E := List.getElem_mem _
    rw [List.take_add_one, he, Option.toList_some, runC_snoc]
    exact (ih (by omega)).step (h.wel _ hm) (h.fit _ hm).n
/-- The sizes of the state ahead of the m-th round. -/
theorem stA_qW {E : List Op5} (h : OkW E) {m : Nat} (hm : m ≤ E.length) : (∀ j, PQ (((stA E m).2.1.take j).foldl pushL (stA E m).1) 8388608 2199023255552 4194304) ∧ PQ (flushL (stA E m).1 (stA E m).2.1 (stA E m).2.2) 8388608 2199023255552 4194304 ∧ (∀ o ∈ (stA E m).2.1, Wel o ∧ o.A.length ≤ 1048576 ∧ o.t.size ≤ 8388608 ∧ o.c ≤ 2199023255552) ∧ 0 ≤ (stA E m).2.2 ∧ (stA E m).2.2 ≤ 2199023255552 ∧ (stA E m).2.1.length ≤ 4194304 := by
  rw [stA_at hm]
  have q := runQ_takeW h m hm
  have t1 := txtS_take E m
  have t2 := h.txt
  have t3 := h.len
  have t4 : (E.take m).length ≤ E.length := by rw [List.length_take]; omega
  have t5 : sumB (E.take m) ≤ sumB E := by
    have := sumB_append (E.take m) (E.drop m)
    rw [List.take_append_drop] at this
    have := (sums_nn (E := E.drop m) (fun o ho => h.wel o (List.mem_of_mem_drop ho))).1
    omega
  have t6 := h.base
  obtain ⟨⟨T, S, L, h1, h2, h3, h4⟩, h5, h6⟩ := q
  have hS : 0 ≤ S := by
    have := (sums_nn (E := (runC (E.take m)).1) (fun o ho => (h1.wel o ho).1)).1
    have := h1.sum
    omega
  have q := runQ_takeW h m hm
  refine ⟨fun j => (q.fold j).up (by omega) (by omega) (by omega), (flush_q q).up (by omega) (by omega) (by omega), fun o ho => ?_, h6, by omega, by split at h4 <;> omega⟩
  obtain ⟨⟨a1, a2⟩, a3⟩ := h5 o ho
  have := txtS_mem ho
  refine ⟨a1, a2, by omega, ?_⟩
  rcases a1 with ⟨hi, _⟩ | ⟨b, _⟩ | ⟨b, _⟩
  · rw [hi.count]; omega
  · omega
  · omega
set_option maxHeartbeats 40000000 in
set_option maxRecDepth 100000 in
theorem canonW_any {w0 : World} (va : Value) (D0 : List OV) (E : List Op5) (w : World) (hb0 : Below w0.heap.size w0 w) (hrow : RowO w va D0) (hre : ReD w0 D0 E) (ok : OkW E) :
    Calls Tryz.prog 11 #[va] w fun r w' => ∃ v', r = .returned v' ∧ (∃ D', FarO w' w.heap.size v' D' ∧ ReD w0 D' (canonL E)) ∧ Below w.heap.size w w' := by
  have hDE := forall2_len hre
  obtain ⟨n, hn⟩ : ∃ n, E.length = n := ⟨_, rfl⟩
  obtain ⟨p, cap, rfl, hcap, hnz, hc⟩ := hrow
  have HR : Hid (∀ k, k < n → ∃ (e : Op5) (b off : Nat) (sp : Option Addr) (sl sc : Nat), E[k]? = some e ∧ p = some ⟨b, off, none⟩ ∧ OpAt w b (off + k * 7) (e.k, e.t, e.v, e.c, (sp, sl, sc)) ∧ RN w0 (.slice sp sl sc) e.A) := fun k hk => by
    obtain ⟨d, hd⟩ : ∃ d, D0[k]? = some d := ⟨_, List.getElem?_eq_getElem (by omega)⟩
    obtain ⟨e, he, h1, h2, h3, h4, h5⟩ := forall2_get hre k d hd
    obtain ⟨b, off, hp, hat⟩ := hc k d hd
    obtain ⟨dk, dt, dv, dc, sp, sl, sc⟩ := d
    simp only at h1 h2 h3 h4
    subst h1; subst h2; subst h3; subst h4
    exact ⟨e, b, off, sp, sl, sc, he, hp, hat, h5⟩
  have HN : Hid (E.length = n ∧ OkW E) := ⟨hn, ok⟩
  have hnl : n ≤ 4194304 := by have := ok.len; omega
  rw [hDE, hn] at hcap ⊢
  clear hc hDE hre hnz ok hn
  have hcs : CanS w0 w ((w.alloc (.cells #[] 33)).alloc (.cells #[] 33)) (.slice (some ⟨w.heap.size, 0, none⟩) 0 0) (.slice (some ⟨w.heap.size + 1, 0, none⟩) 0 0) [] [] := by
    have o1 := own_emptyO w w.heap.size (Nat.le_refl _)
    have b1 := (Below.refl w.heap.size w).alloc (Nat.le_refl _) (.cells #[] 33)
    have s1 : (w.alloc (.cells #[] 33)).heap.size = w.heap.size + 1 := by simp
    have o2 := own_emptyO (w.alloc (.cells #[] 33)) w.heap.size (by omega)
    rw [s1] at o2
    refine ⟨⟨[], owns_below o1 ((Below.refl _ _).alloc (Nat.le_refl _) _), .nil⟩, ⟨[], o2, .nil⟩, fun k h1 h2 => ?_, b1.alloc b1.size _, hb0⟩
    have e1 : w.heap.size = k := Option.some.inj h1
    have e2 : w.heap.size + 1 = k := Option.some.inj h2
    omega
  have HS0 : Hid (CanS w0 w ((w.alloc (.cells #[] 33)).alloc (.cells #[] 33)) (.slice (some ⟨w.heap.size, 0, none⟩) 0 0) (.slice (some ⟨w.heap.size + 1, 0, none⟩) 0 0) (stA E 0).1 (stA E 0).2.1) := by
    rw [stA_at (Nat.zero_le _), List.take_zero]; exact hcs
  have hz0 : (0 : Int) = (stA E 0).2.2 := by rw [stA_at (Nat.zero_le _), List.take_zero]; rfl
  clear hcs
  go_enter Tryz.func11, Tryz.ntmps11
  go_wp2
  obtain ⟨W0, hW0⟩ : ∃ W, W = (w.alloc (.cells #[] 33)).alloc (.cells #[] 33) := ⟨_, rfl⟩
  obtain ⟨vo0, hvo0⟩ : ∃ v : Value, v = .slice (some ⟨w.heap.size, 0, none⟩) 0 0 := ⟨_, rfl⟩
  obtain ⟨vg0, hvg0⟩ : ∃ v : Value, v = .slice (some ⟨w.heap.size + 1, 0, none⟩) 0 0 := ⟨_, rfl⟩
  rw [← hW0, ← hvo0, ← hvg0] at HS0
  try rw [← hW0]
  try rw [← hvo0]
  try rw [← hvg0]
  clear hW0 hvo0 hvg0
  go_loopw [3, 4, 5, 6] (fun vo vg g i wr => ∃ (m : Nat), m ≤ n + 1 ∧ i = .int .i64 m ∧ g = .int .i64 (stA E m).2.2 ∧ Hid (CanS w0 w wr vo vg (stA E m).1 (stA E m).2.1)) (fun _ _ _ i _ => n + 1 - (RowKit.intOf i).toNat)
  case atStart => exact ⟨0, Nat.zero_le _, rfl, by rw [← hz0], HS0⟩
  case round =>
    clear HS0 hz0
    obtain ⟨m, hm, rfl, rfl, HS⟩ := hrel
    by_cases hlt : m < n
    · have hltI : (m : Int) < n := by omega
      have hleI : (m : Int) ≤ n := by omega
      have hge0 : (0 : Int) ≤ (m : Int) := by omega
      obtain ⟨e, b, off, sp, sl, sc, he, rfl, hat, hrn⟩ := HR.out m hlt
      obtain ⟨c0, c1, c2, c3, c4, c5, c6⟩ := hat.below HS.out.below
      have how := HN.out.2.wel e (List.mem_of_getElem? he)
      have hA := (HN.out.2.fit e (List.mem_of_getElem? he)).n
      have ht : e.t.size ≤ 8388608 := by have := txtS_mem (List.mem_of_getElem? he); have := HN.out.2.txt; omega
      have hq := stA_qW HN.out.2 (m := m) (by have := HN.out.1; omega)
      have hec : e.c ≤ 2199023255552 := by
        have := HN.out.2.base
        rcases cnt_le HN.out.2.wel (List.mem_of_getElem? he) with h1 | h1 <;> omega
      have HF : Hid (RN w0 (.slice sp sl sc) e.A ∧ Wel e ∧ e.A.length ≤ 1048576 ∧ e.t.size ≤ 8388608 ∧ e.c ≤ 2199023255552) := ⟨hrn, how, hA, ht, hec⟩
      have HQ := Hid.mk' hq
      have cI := ins6_any e sp sl sc wr
      rcases (show (e.k = 1 ∨ e.k = 2) ∨ e.k = 3 ∨ e.k = 4 by rcases how.kinds with h | h | h | h <;> omega) with hk | hk | hk
      · have HNX := Hid.mk' (stA_ins he hk)
        have cI0 : decide (e.k = 1 ∨ e.k = 2) = true := decide_eq_true (by omega)
        rw [cI0] at cI
        have HG : Hid (∀ W, Below wr.heap.size wr W → ∃ D, D.length ≤ 33554432 ∧ OpAt (W.alloc (.cells (opC e (.slice sp sl sc)) 33)) W.heap.size 0 (e.k, e.t, e.v, e.c, (sp, sl, sc)) ∧ OwnO (W.alloc (.cells (opC e (.slice sp sl sc)) 33)) w.heap.size u4 D ∧ w.heap.size ≤ (W.alloc (.cells (opC e (.slice sp sl sc)) 33)).heap.size ∧ ∀ v8 w8, OwnO w8 w.heap.size v8 (D ++ [(e.k, e.t, e.v, e.c, (sp, sl, sc))]) → (W.alloc (.cells (opC e (.slice sp sl sc)) 33)).grownBy w8 u4.ownBlock → (v8.ownBlock = u4.ownBlock ∨ v8.ownBlock = some (W.alloc (.cells (opC e (.slice sp sl sc)) 33)).heap.size) → CanS w0 w w8 u3 v8 (stA E (m + 1)).1 (stA E (m + 1)).2.1) := fun W hW => by
          have h := HS.out.keep hW
          have hk := h.keep ((Below.refl W.heap.size W).alloc (Nat.le_refl _) (.cells (opC e (.slice sp sl sc)) 33))
          obtain ⟨D, d1, d2⟩ := hk.gap
          have hl := forall2_len d2
          have := hq.2.2.2.2.2
          refine ⟨D, by omega, ⟨by simp [opC], by simp [opC], by simp [opC], by simp [opC], by simp [opC], by simp [opC], by simp [opC]⟩, d1, hk.below.size, fun v8 w8 a1 a2 a3 => ?_⟩
          rw [HNX.out]; exact hk.gapped d2 hrn a1 a2 a3
        have H2 : Hid ((stA E (m + 1)).2.2 = (stA E m).2.2) := by show _ = _; rw [HNX.out]
        obtain ⟨g, hg⟩ : ∃ x, (stA E m).2.2 = x := ⟨_, rfl⟩
        rw [hg] at H2 ⊢
        clear cI0 HQ hq hrn how hA ht hec hat he HF HNX HS hg
        obtain ⟨k, t, ⟨xx, nn, u⟩, cc, A⟩ := e
        simp only [slV] at c0 c1 c2 c3 c4 c5 c6 cI
        go_wp2_with fail
        refine cI.mono ?_; rintro r w1 ⟨rfl, hb1⟩
        have d0 := (hb1.cell (lt_of_cell c0)).trans c0
        have d1 := (hb1.cell (lt_of_cell c1)).trans c1
        have d2 := (hb1.cell (lt_of_cell c2)).trans c2
        have d3 := (hb1.cell (lt_of_cell c3)).trans c3
        have d4 := (hb1.cell (lt_of_cell c4)).trans c4
        have d5 := (hb1.cell (lt_of_cell c5)).trans c5
        have d6 := (hb1.cell (lt_of_cell c6)).trans c6
        obtain ⟨D, hD1, hD2, hD3, hD4, hD5⟩ := HG.out w1 hb1
        have HD5 := Hid.mk' hD5
        clear cI HG hD5 c0 c1 c2 c3 c4 c5 c6 hb1
        go_wp2_with (at_builtin; refine wpList_append_ops rfl (.tmp 28) (.tmp 33) rfl w.heap.size u4 D rfl hD3 _ 1 _ rfl hD2 hD1 hD4 ?_; intro v8 w8 own8 gr8 hat8; have HS2 := Hid.mk' (HD5.out v8 w8 own8 gr8 hat8); clear own8 gr8 hat8 HD5 hD1 hD2 hD3 hD4 d0 d1 d2 d3 d4 d5 d6)
        go_roundw
        case rel => exact ⟨m + 1, by omega, by go_num, by rw [H2.out], HS2⟩
        case measure => simp [RowKit.intOf]; omega
      · have HNX := Hid.mk' (stA_ret he hk)
        have cI0 : decide (e.k = 1 ∨ e.k = 2) = false := decide_eq_false (by omega)
        rw [cI0] at cI
        have HBE : Hid (∀ W, Below w.heap.size w W → OpAt W b (off + m * 7) (e.k, e.t, e.v, e.c, (sp, sl, sc))) := fun W hW => hat.below hW
        clear cI0 hq hrn how hA ht hec hat he
        obtain ⟨PO, hPO⟩ : ∃ x, (stA E m).1 = x := ⟨_, rfl⟩
        obtain ⟨PG, hPG⟩ : ∃ x, (stA E m).2.1 = x := ⟨_, rfl⟩
        obtain ⟨g, hg⟩ : ∃ x, (stA E m).2.2 = x := ⟨_, rfl⟩
        rw [hPO, hPG, hg] at HNX HQ
        rw [hPO, hPG] at HS
        rw [hg]
        clear hPO hPG hg
        have hg2 := HQ.out.2.2.2.2.1
        have hg1 := HQ.out.2.2.2.1
        obtain ⟨k, t, ⟨xx, nn, u⟩, cc, A⟩ := e
        simp only [slV] at hk c0 c1 c2 c3 c4 c5 c6 cI HBE
        subst hk
        go_wp2_with fail
        refine cI.mono ?_; rintro r w1 ⟨rfl, hb1⟩
        have c0' := (hb1.cell (lt_of_cell c0)).trans c0
        obtain ⟨pg, cg, rfl⟩ := HS.out.len
        have H1 : Hid (CanS w0 w w1 u3 (.slice pg PG.length cg) PO PG) := HS.out.keep hb1
        obtain ⟨lg, hlg⟩ : ∃ x, PG.length = x := ⟨_, rfl⟩
        have HLG : Hid (PG.length = lg) := hlg
        have hlg4 : lg ≤ 4194304 := by have := HQ.out.2.2.2.2.2; omega
        rw [hlg] at H1 ⊢
        clear hlg cI HS c0 c1 c2 c3 c4 c5 c6 hb1
        go_wp2
        go_loopw [3, 56] (fun vo i wr2 => ∃ (j : Nat), j ≤ lg ∧ i = .int .i64 j ∧ Hid (CanS w0 w wr2 vo (.slice pg lg cg) ((PG.take j).foldl pushL PO) PG)) (fun _ i _ => lg - (RowKit.intOf i).toNat)
        case atStart => exact ⟨0, Nat.zero_le _, rfl, by rw [List.take_zero]; exact H1⟩
        case round =>
          clear H1
          obtain ⟨j, hj, rfl, H1⟩ := hrel
          by_cases hjl : j < lg
          · have hjI : (j : Int) < lg := by omega
            have hj0 : (0 : Int) ≤ (j : Int) := by omega
            obtain ⟨e', gg, sp', sl', sc', he', rfl, hat', hrn'⟩ := H1.out.read j (by rw [HLG.out]; exact hjl)
            obtain ⟨d0, d1, d2, d3, d4, d5, d6⟩ := hat'
            rw [Nat.zero_add] at d0 d1 d2 d3 d4 d5 d6
            have HB := H1.out.keep ((Below.refl wr.heap.size wr).alloc (Nat.le_refl _) (.cells (opC e' (.slice sp' sl' sc')) 33))
            obtain ⟨a1, a2, a3, a4⟩ := HQ.out.2.2.1 e' (List.mem_of_getElem? he')
            have cP := push_can e' sp' sl' sc' HB hrn' (HQ.out.1 j) (Nat.le_refl _) (by decide) (Nat.le_refl _) a1 a2 a3 a4
            have hP2 : pushL ((PG.take j).foldl pushL PO) e' = (PG.take (j + 1)).foldl pushL PO := by rw [List.take_add_one, he', List.foldl_append]; rfl
            rw [hP2] at cP
            clear HB a1 a2 a3 a4 H1 hrn' he' hP2
            obtain ⟨k', t', ⟨x', n', u'⟩, c', A'⟩ := e'
            simp only [opC, slV] at d0 d1 d2 d3 d4 d5 d6 cP
            go_wp2_with fail
            refine cP.mono ?_; rintro r w5 ⟨v5, rfl, h5⟩
            have H5 := Hid.mk' h5
            clear cP d0 d1 d2 d3 d4 d5 d6 h5
            go_wp2
            go_roundw
            case rel => exact ⟨j + 1, by omega, by go_num, H5⟩
            case measure => simp [RowKit.intOf]; omega
          · obtain rfl : j = lg := by omega
            have hjI : ¬ (j : Int) < j := by omega
            have hq1 := HQ.out.1 j
            rw [show PG.take j = PG by have := HLG.out; rw [← this, List.take_length]] at H1 hq1
            by_cases hgp : 0 < g
            · have cP := push_can (delO g) none 0 0 H1.out (RN.nil w0) hq1 (Nat.le_refl _) (by decide) (Nat.le_refl _) (delO_wel (by omega)) (by show (0 : Nat) ≤ _; omega) (by show (0 : Nat) ≤ _; omega) (by show g ≤ _; omega)
              have hfl : pushL (PG.foldl pushL PO) (delO g) = flushL PO PG g := by unfold flushL; rw [if_pos hgp]
              rw [hfl] at cP
              simp only [delO] at cP
              clear hq1 H1 hfl
              go_wp2_with fail
              refine cP.mono ?_; rintro r w5 ⟨v5, rfl, h5⟩
              have H5 := Hid.mk' h5.cleared
              clear cP h5
              obtain ⟨d0, d1, d2, d3, d4, d5, d6⟩ := HBE.out w5 H5.out.below
              have cP := push_can ⟨3, t, (xx, nn, u), cc, A⟩ sp sl sc H5.out HF.out.1 HQ.out.2.1 (Nat.le_refl _) (by decide) (Nat.le_refl _) HF.out.2.1 HF.out.2.2.1 HF.out.2.2.2.1 HF.out.2.2.2.2
              have H2 : Hid ((stA E (m + 1)).2.2 = 0) := by show _ = _; rw [HNX.out]
              have h1 : pushL (flushL PO PG g) ⟨3, t, (xx, nn, u), cc, A⟩ = (stA E (m + 1)).1 := by rw [HNX.out]
              have h2 : ([] : List Op5) = (stA E (m + 1)).2.1 := by rw [HNX.out]
              rw [h1, h2] at cP
              clear H5 h1 h2 HNX HQ HF
              simp only [slV] at d0 d1 d2 d3 d4 d5 d6 cP
              go_wp2_with fail
              refine cP.mono ?_; rintro r w6 ⟨v6, rfl, h6⟩
              have H6 := Hid.mk' h6
              clear cP d0 d1 d2 d3 d4 d5 d6 h6
              go_wp2
              go_roundw
              case rel => exact ⟨m + 1, by omega, by go_num, by rw [H2.out], H6⟩
              case measure => simp [RowKit.intOf]; omega
            · have hfl : PG.foldl pushL PO = flushL PO PG g := by unfold flushL; rw [if_neg hgp]
              rw [hfl] at H1
              have H5 := Hid.mk' H1.out.cleared
              clear hq1 H1 hfl
              obtain ⟨d0, d1, d2, d3, d4, d5, d6⟩ := HBE.out wr H5.out.below
              have cP := push_can ⟨3, t, (xx, nn, u), cc, A⟩ sp sl sc H5.out HF.out.1 HQ.out.2.1 (Nat.le_refl _) (by decide) (Nat.le_refl _) HF.out.2.1 HF.out.2.2.1 HF.out.2.2.2.1 HF.out.2.2.2.2
              have H2 : Hid ((stA E (m + 1)).2.2 = 0) := by show _ = _; rw [HNX.out]
              have h1 : pushL (flushL PO PG g) ⟨3, t, (xx, nn, u), cc, A⟩ = (stA E (m + 1)).1 := by rw [HNX.out]
              have h2 : ([] : List Op5) = (stA E (m + 1)).2.1 := by rw [HNX.out]
              rw [h1, h2] at cP
              clear H5 h1 h2 HNX HQ HF
              simp only [slV] at d0 d1 d2 d3 d4 d5 d6 cP
              go_wp2_with fail
              refine cP.mono ?_; rintro r w6 ⟨v6, rfl, h6⟩
              have H6 := Hid.mk' h6
              clear cP d0 d1 d2 d3 d4 d5 d6 h6
              go_wp2
              go_roundw
              case rel => exact ⟨m + 1, by omega, by go_num, by rw [H2.out], H6⟩
              case measure => simp [RowKit.intOf]; omega
      · have HNX := Hid.mk' (stA_del he hk)
        have cI0 : decide (e.k = 1 ∨ e.k = 2) = false := decide_eq_false (by omega)
        rw [cI0] at cI
        have hcnt := how.count (Or.inr hk)
        have hg2 := hq.2.2.2.2.1
        have hg1 := hq.2.2.2.1
        clear cI0 HF HQ hq hrn how hA ht hat he
        obtain ⟨g, hg⟩ : ∃ x, (stA E m).2.2 = x := ⟨_, rfl⟩
        rw [hg] at HNX hg1 hg2 ⊢
        obtain ⟨k, t, ⟨xx, nn, u⟩, cc, A⟩ := e
        simp only [slV] at hk c0 c1 c2 c3 c4 c5 c6 hec hcnt cI
        subst hk
        go_wp2_with fail
        refine cI.mono ?_; rintro r w1 ⟨rfl, hb1⟩
        have c0' := (hb1.cell (lt_of_cell c0)).trans c0
        have c5' := (hb1.cell (lt_of_cell c5)).trans c5
        have H1 : Hid (CanS w0 w w1 u3 u4 (stA E (m + 1)).1 (stA E (m + 1)).2.1) := by rw [HNX.out]; exact HS.out.keep hb1
        have H2 : Hid ((stA E (m + 1)).2.2 = g + cc) := by show _ = _; rw [HNX.out]
        clear cI HS HNX c0 c1 c2 c3 c4 c5 c6 hg hb1
        go_wp2
        go_roundw
        case rel => exact ⟨m + 1, by omega, by go_num, by rw [H2.out], H1⟩
        case measure => simp [RowKit.intOf]; omega
    · by_cases hmn : m = n
      · subst hmn
        have hge0 : (0 : Int) ≤ (m : Int) := by omega
        have hq := stA_qW HN.out.2 (m := m) (by have := HN.out.1; omega)
        have HQ := Hid.mk' hq
        have hst : stA E (m + 1) = (flushL (stA E m).1 (stA E m).2.1 (stA E m).2.2, [], 0) := by
          have e1 := HN.out.1
          rw [← e1, stA_end, stA_at (Nat.le_refl _), List.take_length]
        have HNX := Hid.mk' hst
        clear hq hst hlt
        obtain ⟨PO, hPO⟩ : ∃ x, (stA E m).1 = x := ⟨_, rfl⟩
        obtain ⟨PG, hPG⟩ : ∃ x, (stA E m).2.1 = x := ⟨_, rfl⟩
        obtain ⟨g, hg⟩ : ∃ x, (stA E m).2.2 = x := ⟨_, rfl⟩
        rw [hPO, hPG, hg] at HNX HQ
        rw [hPO, hPG] at HS
        rw [hg]
        clear hPO hPG hg
        have hg2 := HQ.out.2.2.2.2.1
        have hg1 := HQ.out.2.2.2.1
        obtain ⟨pg, cg, rfl⟩ := HS.out.len
        obtain ⟨lg, hlg⟩ : ∃ x, PG.length = x := ⟨_, rfl⟩
        have HLG : Hid (PG.length = lg) := hlg
        have hlg4 : lg ≤ 4194304 := by have := HQ.out.2.2.2.2.2; omega
        have H1 : Hid (CanS w0 w wr u3 (.slice pg PG.length cg) PO PG) := HS
        rw [hlg] at H1 ⊢
        clear hlg HS
        go_wp2
        go_loopw [3, 56] (fun vo i wr2 => ∃ (j : Nat), j ≤ lg ∧ i = .int .i64 j ∧ Hid (CanS w0 w wr2 vo (.slice pg lg cg) ((PG.take j).foldl pushL PO) PG)) (fun _ i _ => lg - (RowKit.intOf i).toNat)
        case atStart => exact ⟨0, Nat.zero_le _, rfl, by rw [List.take_zero]; exact H1⟩
        case round =>
          clear H1
          obtain ⟨j, hj, rfl, H1⟩ := hrel
          by_cases hjl : j < lg
          · have hjI : (j : Int) < lg := by omega
            have hj0 : (0 : Int) ≤ (j : Int) := by omega
            obtain ⟨e', gg, sp', sl', sc', he', rfl, hat', hrn'⟩ := H1.out.read j (by rw [HLG.out]; exact hjl)
            obtain ⟨d0, d1, d2, d3, d4, d5, d6⟩ := hat'
            rw [Nat.zero_add] at d0 d1 d2 d3 d4 d5 d6
            have HB := H1.out.keep ((Below.refl wr.heap.size wr).alloc (Nat.le_refl _) (.cells (opC e' (.slice sp' sl' sc')) 33))
            obtain ⟨a1, a2, a3, a4⟩ := HQ.out.2.2.1 e' (List.mem_of_getElem? he')
            have cP := push_can e' sp' sl' sc' HB hrn' (HQ.out.1 j) (Nat.le_refl _) (by decide) (Nat.le_refl _) a1 a2 a3 a4
            have hP2 : pushL ((PG.take j).foldl pushL PO) e' = (PG.take (j + 1)).foldl pushL PO := by rw [List.take_add_one, he', List.foldl_append]; rfl
            rw [hP2] at cP
            clear HB a1 a2 a3 a4 H1 hrn' he' hP2
            obtain ⟨k', t', ⟨x', n', u'⟩, c', A'⟩ := e'
            simp only [opC, slV] at d0 d1 d2 d3 d4 d5 d6 cP
            go_wp2_with fail
            refine cP.mono ?_; rintro r w5 ⟨v5, rfl, h5⟩
            have H5 := Hid.mk' h5
            clear cP d0 d1 d2 d3 d4 d5 d6 h5
            go_wp2
            go_roundw
            case rel => exact ⟨j + 1, by omega, by go_num, H5⟩
            case measure => simp [RowKit.intOf]; omega
          · obtain rfl : j = lg := by omega
            have hjI : ¬ (j : Int) < j := by omega
            have hq1 := HQ.out.1 j
            rw [show PG.take j = PG by have := HLG.out; rw [← this, List.take_length]] at H1 hq1
            by_cases hgp : 0 < g
            · have cP := push_can (delO g) none 0 0 H1.out (RN.nil w0) hq1 (Nat.le_refl _) (by decide) (Nat.le_refl _) (delO_wel (by omega)) (by show (0 : Nat) ≤ _; omega) (by show (0 : Nat) ≤ _; omega) (by show g ≤ _; omega)
              have hfl : pushL (PG.foldl pushL PO) (delO g) = flushL PO PG g := by unfold flushL; rw [if_pos hgp]
              rw [hfl] at cP
              simp only [delO] at cP
              clear hq1 H1 hfl
              go_wp2_with fail
              refine cP.mono ?_; rintro r w5 ⟨v5, rfl, h5⟩
              have H5 := Hid.mk' h5.cleared
              clear cP h5
              have H2 : Hid ((stA E (m + 1)).2.2 = 0) := by show _ = _; rw [HNX.out]
              have H6 : Hid (CanS w0 w w5 v5 (.slice none 0 0) (stA E (m + 1)).1 (stA E (m + 1)).2.1) := by rw [HNX.out]; exact H5
              clear H5 HNX HQ
              go_wp2
              go_roundw
              case rel => exact ⟨m + 1, by omega, by go_num, by rw [H2.out], H6⟩
              case measure => (simp [RowKit.intOf]) <;> omega
            · have hfl : PG.foldl pushL PO = flushL PO PG g := by unfold flushL; rw [if_neg hgp]
              rw [hfl] at H1
              have H5 := Hid.mk' H1.out.cleared
              clear hq1 H1 hfl
              have H2 : Hid ((stA E (m + 1)).2.2 = 0) := by show _ = _; rw [HNX.out]
              have H6 : Hid (CanS w0 w wr u3 (.slice none 0 0) (stA E (m + 1)).1 (stA E (m + 1)).2.1) := by rw [HNX.out]; exact H5
              clear H5 HNX HQ
              go_wp2
              go_roundw
              case rel => exact ⟨m + 1, by omega, by go_num, by rw [H2.out], H6⟩
              case measure => (simp [RowKit.intOf]) <;> omega
      · obtain rfl : m = n + 1 := by omega
        have hnl1 : ¬ ((n : Int) + 1 ≤ n) := by omega
        have hst : (stA E (n + 1)).1 = flushL (runC E).1 (runC E).2.1 (runC E).2.2 := by
          have e1 := HN.out.1
          rw [← e1, stA_end]
        rw [hst] at HS
        have hq := (stA_qW HN.out.2 (m := n) (by have := HN.out.1; omega)).2.1.len
        rw [stA_at (by have := HN.out.1; omega), show E.take n = E by have := HN.out.1; rw [← this, List.take_length]] at hq
        have hcan : canonL E = trimL (flushL (runC E).1 (runC E).2.1 (runC E).2.2) := rfl
        generalize flushL (runC E).1 (runC E).2.1 (runC E).2.2 = P at HS hq hcan
        have hb := HS.out.below
        obtain ⟨D, hown, hD⟩ := HS.out.out
        have hD' := hD
        have hlen := forall2_len hD
        generalize (stA E (n + 1)).2.2 = g at *
        clear HS hst HN HR hD
        rcases List.eq_nil_or_concat P with rfl | ⟨F, x, rfl⟩
        · obtain rfl : D = [] := List.eq_nil_of_length_eq_zero (by simpa using hlen)
          obtain ⟨po, co, hvo⟩ := own_slice hown
          obtain rfl : u3 = .slice po 0 co := hvo
          have HO : Hid (FarO wr w.heap.size (.slice po 0 co) [] ∧ Below w.heap.size w wr) := ⟨far_own hown rfl (fun _ _ h => h) (Nat.le_refl _), hb⟩
          have HC : Hid (canonL E = []) := hcan
          clear hown hb hD' hlen hq hmn hlt hm hcan
          go_wp2
          go_ret
          exact ⟨_, rfl, ⟨[], HO.out.1, by rw [HC.out]; exact .nil⟩, HO.out.2⟩
        · rw [List.concat_eq_append] at hD' hlen hq hcan
          obtain ⟨FD, d, rfl⟩ : ∃ FD d, D = FD ++ [d] := by
            rcases List.eq_nil_or_concat D with rfl | ⟨FD, d, rfl⟩
            · simp at hlen
            · exact ⟨FD, d, List.concat_eq_append⟩
          have hl' : FD.length = F.length := by simpa using hlen
          obtain ⟨hF, hx⟩ := forall2_unappend hl' hD'
          obtain ⟨hx1, hx2, hx3, hx4, hx5⟩ : d.1 = x.k ∧ d.2.1 = x.t ∧ d.2.2.1 = x.v ∧ d.2.2.2.1 = x.c ∧ RN w0 (slV d.2.2.2.2) x.A := by cases hx with | cons a _ => exact a
          obtain ⟨dk, dt, dv, dc, sp, sl, sc⟩ := d
          simp only at hx1 hx2 hx3 hx4
          subst hx1; subst hx2; subst hx3; subst hx4
          have hro := own_rowO hown
          obtain ⟨po, co, hvo, hco1, hco2, hco3⟩ := hro
          obtain ⟨bo, oo, rfl, hat⟩ := hco3 FD.length (x.k, x.t, x.v, x.c, sp, sl, sc) (by simp)
          obtain ⟨c0, c1, c2, c3, c4, c5, c6⟩ := hat
          rw [show (FD ++ [(x.k, x.t, x.v, x.c, sp, sl, sc)]).length = FD.length + 1 by simp] at hvo hco1
          subst hvo
          have hlA : sl = x.A.length := by
            obtain ⟨q, cc, e1, _⟩ := hx5.row
            simp only [slV, Value.slice.injEq] at e1
            exact e1.2.1
          have cP := plain6_any x sp sl sc wr hlA
          have HB := Hid.mk' hb
          have HO := Hid.mk' hown
          have HRF : Hid (FarO wr w.heap.size (.slice (some ⟨bo, oo, none⟩) FD.length co) FD ∧ ReD w0 FD F) := ⟨far_own hown rfl (fun j d hd => by rw [List.getElem?_append_left (List.getElem?_eq_some_iff.1 hd).1]; exact hd) (by simp), hF⟩
          have HRX : Hid (FarO wr w.heap.size (.slice (some ⟨bo, oo, none⟩) (FD.length + 1) co) (FD ++ [(x.k, x.t, x.v, x.c, sp, sl, sc)]) ∧ ReD w0 (FD ++ [(x.k, x.t, x.v, x.c, sp, sl, sc)]) (F ++ [x])) := ⟨by have h := far_own hown rfl (F := FD ++ [(x.k, x.t, x.v, x.c, sp, sl, sc)]) (fun _ _ h => h) (Nat.le_refl _); rw [show (FD ++ [(x.k, x.t, x.v, x.c, sp, sl, sc)]).length = FD.length + 1 by simp] at h; exact h, forall2_append hF hx⟩
          have hFl : FD.length ≤ 4194304 := by simp at hq; omega
          obtain ⟨fl, hfl⟩ : ∃ y, FD.length = y := ⟨_, rfl⟩
          rw [hfl] at HRF HRX hFl hco1 c0 c1 c2 c3 c4 c5 c6 ⊢
          clear hco3 hco2 hx5 hx hF hl' hlen hD' hown hb hq hfl HO hmn hlt hm hlA
          have hf0 : (0 : Int) < (fl : Int) + 1 := by omega
          have hf1 : (fl : Int) + 1 - 1 = (fl : Int) := by omega
          have hf2 : (0 : Int) ≤ (fl : Int) := by omega
          cases hp : plainR x with
          | true =>
            rw [trim_yes hp] at hcan
            have HC := Hid.mk' hcan
            rw [hp] at cP
            clear HRX hp hcan
            obtain ⟨k, t, ⟨xx, nn, u⟩, cc, A⟩ := x
            simp only [slV] at c0 c1 c2 c3 c4 c5 c6 cP
            go_wp2_with fail
            refine cP.mono ?_; rintro r w1 ⟨rfl, hb1⟩
            have HB1 : Hid (Below w.heap.size w w1) := HB.out.trans (hb1.mono HB.out.size)
            have HR1 := Hid.mk' (And.intro (HRF.out.1.below hb1) HRF.out.2)
            clear cP c0 c1 c2 c3 c4 c5 c6 HRF HB hb1
            go_wp2
            go_ret
            exact ⟨_, rfl, ⟨_, HR1.out.1, by rw [HC.out]; exact HR1.out.2⟩, HB1.out⟩
          | false =>
            rw [trim_no hp] at hcan
            have HC := Hid.mk' hcan
            rw [hp] at cP
            clear HRF hp hcan
            obtain ⟨k, t, ⟨xx, nn, u⟩, cc, A⟩ := x
            simp only [slV] at c0 c1 c2 c3 c4 c5 c6 cP
            go_wp2_with fail
            refine cP.mono ?_; rintro r w1 ⟨rfl, hb1⟩
            have HB1 : Hid (Below w.heap.size w w1) := HB.out.trans (hb1.mono HB.out.size)
            have HR1 := Hid.mk' (And.intro (HRX.out.1.below hb1) HRX.out.2)
            clear cP c0 c1 c2 c3 c4 c5 c6 HRX HB hb1
            go_wp2
            go_ret
            exact ⟨_, rfl, ⟨_, HR1.out.1, by rw [HC.out]; exact HR1.out.2⟩, HB1.out⟩
end Go.Proofs.YthfpmhnnjjikcaaGreatDoor

/- The document's deltas: Of. -/
namespace Go.Proofs.YthfpmhnnjjikcaaGreatDoor
open Go Go.RowKit Go.Lib
set_option linter.unusedVariables false

set_option maxHeartbeats 40000000 in
set_option maxRecDepth 100000 in
theorem ref6Of_any {I : List Nat} {a : Nat → Addr} {w0 : World} (va : Value) (D0 : List OV) (E : List Op5) (w : World) (hS : Std I a w) (hb0 : Below w0.heap.size w0 w) (hrow : RowO w va D0) (hre : ReD w0 D0 E) (hF : FitL E) (hl : E.length ≤ 1048576) (ht : txtS E ≤ 8388608) :
    Calls Tryz.prog 67 #[va] w fun r w' => ∃ dv, r = .returned (.tuple #[dv, .int .i64 (ofE 0 0 E).1, .int .i64 (ofE 0 0 E).2]) ∧ ((ofE 0 0 E).2 = 0 → ∃ D', FarO w' w.heap.size dv D' ∧ ReD w0 D' (canonL E)) ∧ ((ofE 0 0 E).2 ≠ 0 → dv = .slice none 0 0) ∧ Below w.heap.size w w' := by
  have CK : Hid (OkE E → ∀ W, Below w.heap.size w W → Calls Tryz.prog 11 #[va] W fun r w' => ∃ v', r = .returned v' ∧ (∃ D', FarO w' W.heap.size v' D' ∧ ReD w0 D' (canonL E)) ∧ Below W.heap.size W w') := fun ok W hW => canon6_any va D0 E W (hb0.trans (hW.mono hb0.size)) (hrow.below hW) hre ok
  have CC : Hid (∀ (o : Op5) (s : Value) (W W2 : World), Below w.heap.size w W → Below W.heap.size W W2 → RN w s o.A → Fit o → Calls Tryz.prog 59 #[opV o s] W2 fun r w' => r = .returned (.int .i64 (opE o)) ∧ Below W2.heap.size W2 w') := fun o s W W2 hW hW2 hR hf => refCheckO_any o s W2 ((hS.below hW).below hW2) ((hR.below hW).below hW2) hf
  have hDE := forall2_len hre
  obtain ⟨n, hn⟩ : ∃ n, E.length = n := ⟨_, rfl⟩
  obtain ⟨p, cap, rfl, hcap, hnz, hc⟩ := hrow
  have HR : Hid (∀ k, k < n → ∃ (e : Op5) (b off : Nat) (sp : Option Addr) (sl sc : Nat), E[k]? = some e ∧ p = some ⟨b, off, none⟩ ∧ OpAt w b (off + k * 7) (e.k, e.t, e.v, e.c, (sp, sl, sc)) ∧ RN w0 (.slice sp sl sc) e.A) := fun k hk => by
    obtain ⟨d, hd⟩ : ∃ d, D0[k]? = some d := ⟨_, List.getElem?_eq_getElem (by omega)⟩
    obtain ⟨e, he, h1, h2, h3, h4, h5⟩ := forall2_get hre k d hd
    obtain ⟨b, off, hp, hat⟩ := hc k d hd
    obtain ⟨dk, dt, dv, dc, sp, sl, sc⟩ := d
    simp only at h1 h2 h3 h4
    subst h1; subst h2; subst h3; subst h4
    exact ⟨e, b, off, sp, sl, sc, he, hp, hat, h5⟩
  have HN : Hid (E.length = n ∧ FitL E ∧ txtS E ≤ 8388608) := ⟨hn, hF, ht⟩
  have hnl : n ≤ 1048576 := by omega
  rw [hDE, hn] at hcap CK ⊢
  clear hc hDE hre hnz hn hF ht hS hl
  go_enter Tryz.func67, Tryz.ntmps67
  go_wp2
  go_loopw [5, 6, 13] (fun bb rr i wr => ∃ (k : Nat), k ≤ n ∧ i = .int .i64 k ∧ bb = .int .i64 (sumB (E.take k)) ∧ rr = .int .i64 (sumR (E.take k)) ∧ Hid (OkE (E.take k)) ∧ Below w.heap.size w wr) (fun _ _ i _ => n - (RowKit.intOf i).toNat)
  case atStart => exact ⟨0, Nat.zero_le _, rfl, by rw [List.take_zero]; rfl, by rw [List.take_zero]; rfl, by rw [List.take_zero]; exact OkE.nil, Below.refl _ _⟩
  case round =>
    obtain ⟨k, hk, rfl, rfl, rfl, HO, hbw⟩ := hrel
    obtain ⟨bs, hbs⟩ : ∃ x, sumB (E.take k) = x := ⟨_, rfl⟩
    obtain ⟨rs, hrs⟩ : ∃ x, sumR (E.take k) = x := ⟨_, rfl⟩
    have hb1 : 0 ≤ bs := by rw [← hbs]; exact (sums_nn HO.out.wel).1
    have hr1 : 0 ≤ rs := by rw [← hrs]; exact (sums_nn HO.out.wel).2
    have hb2 : bs ≤ 1099511627776 := by rw [← hbs]; exact HO.out.base
    have hr2 : rs ≤ 1099511627776 := by rw [← hrs]; exact HO.out.res
    rw [hbs, hrs]
    by_cases hlt : k < n
    · have hltI : (k : Int) < n := by omega
      have hk0 : (0 : Int) ≤ (k : Int) := by omega
      obtain ⟨e, b, off, sp, sl, sc, he, rfl, hat, hrn⟩ := HR.out k hlt
      have hem := List.mem_of_getElem? he
      have hfe := HN.out.2.1 e hem
      obtain ⟨c0, c1, c2, c3, c4, c5, c6⟩ := hat.below hbw
      have bw : Below wr.heap.size wr (wr.alloc (.cells (opC e (.slice sp sl sc)) 33)) := (Below.refl _ _).alloc (Nat.le_refl _) _
      have cC := CC.out e (.slice sp sl sc) wr _ hbw bw (hrn.below hb0) hfe
      have HX : Hid (∀ W, Below (wr.alloc (.cells (opC e (.slice sp sl sc)) 33)).heap.size (wr.alloc (.cells (opC e (.slice sp sl sc)) 33)) W → OpAt W wr.heap.size 0 (e.k, e.t, e.v, e.c, (sp, sl, sc)) ∧ Below w.heap.size w W) := fun W hW => ⟨OpAt.below (w := wr.alloc (.cells (opC e (.slice sp sl sc)) 33)) ⟨by simp [opC], by simp [opC], by simp [opC], by simp [opC], by simp [opC], by simp [opC], by simp [opC, slV]⟩ hW, hbw.trans ((bw.trans (hW.mono bw.size)).mono hbw.size)⟩
      have hT : E.take (k + 1) = E.take k ++ [e] := by rw [List.take_add_one, he]; rfl
      have HT : Hid (E.take (k + 1) = E.take k ++ [e] ∧ E[k]? = some e ∧ sumB (E.take k) = bs ∧ sumR (E.take k) = rs) := ⟨hT, he, hbs, hrs⟩
      by_cases hz : opE e = 0
      · have hln := len5_range hz hfe
        have hkk := kinds_of hz
        have cL := fun W => len6_any e sp sl sc W hz hfe.t
        have cI := fun W => ins6_any e sp sl sc W
        have hbO : baseO e = if e.k = 3 ∨ e.k = 4 then len5 e else 0 := rfl
        have hrO : resO e = if e.k = 4 then 0 else len5 e := rfl
        have HNX : Hid (bs + baseO e ≤ 1099511627776 ∧ rs + resO e ≤ 1099511627776 → OkE (E.take (k + 1)) ∧ sumB (E.take (k + 1)) = bs + baseO e ∧ sumR (E.take (k + 1)) = rs + resO e) := fun h => by
          have htk := txtS_take E (k + 1)
          have hg : refE (sumB (E.take k)) (sumR (E.take k)) e = 0 := refE_zero.2 ⟨hz, by rw [hbs]; exact h.1, by rw [hrs]; exact h.2⟩
          refine ⟨?_, by rw [hT, sumB_append, sumB_one, hbs], by rw [hT, sumR_append, sumR_one, hrs]⟩
          rw [hT] at htk ⊢
          exact okE_snoc HO.out hg hfe.fitA (Nat.le_trans htk HN.out.2.2) (by simp; omega)
        have HBD : Hid (1099511627776 < bs + baseO e ∨ 1099511627776 < rs + resO e → ofE 0 0 E = (k, 11)) := fun h => ofE_no he HO.out (e := 10) (by unfold refE; rw [if_neg (by simpa using hz), hbs, hrs, if_pos h])
        rw [hz] at cC
        obtain ⟨ln, hll⟩ : ∃ x, len5 e = x := ⟨_, rfl⟩
        rw [hll] at hln cL hbO hrO
        have hmn : min ln 1099511627777 = ln := by omega
        have hmn2 : ln ≤ 1099511627777 := by omega
        clear hz hll HT hT hem hat hrn bw HR CC hfe he hbs hrs HO
        obtain ⟨kk, t, ⟨xx, nn, u⟩, cc, A⟩ := e
        simp only [opC, slV] at c0 c1 c2 c3 c4 c5 c6 cC cL cI hkk hbO hrO HX
        rcases (show (kk = 1 ∨ kk = 2) ∨ kk = 3 ∨ kk = 4 by omega) with hi | hi | hi
        · have hk4 : (kk != 4) = true := by simp; omega
          rw [if_neg (by omega)] at hbO
          rw [if_neg (by omega)] at hrO
          replace hbO := congrArg (fun z => bs + z) hbO
          replace hrO := congrArg (fun z => rs + z) hrO
          try simp only [Int.add_zero] at hbO
          try simp only [Int.add_zero] at hrO
          go_wp2_with fail
          refine cC.mono ?_; rintro r w1 ⟨rfl, hw1⟩
          obtain ⟨⟨d0, d1, d2, d3, d4, d5, d6⟩, b1⟩ := HX.out w1 hw1
          simp only [Nat.zero_add, slV] at d0 d1 d2 d3 d4 d5 d6
          have cl := cL w1
          clear cC c0 c1 c2 c3 c4 c5 c6 hw1 cL
          go_wp2_with fail
          refine cl.mono ?_; rintro r w2 ⟨rfl, hw2⟩
          replace d0 := (hw2.cell (lt_of_cell d0)).trans d0
          replace d1 := (hw2.cell (lt_of_cell d1)).trans d1
          replace d2 := (hw2.cell (lt_of_cell d2)).trans d2
          replace d3 := (hw2.cell (lt_of_cell d3)).trans d3
          replace d4 := (hw2.cell (lt_of_cell d4)).trans d4
          replace d5 := (hw2.cell (lt_of_cell d5)).trans d5
          replace d6 := (hw2.cell (lt_of_cell d6)).trans d6
          have b2 := b1.trans (hw2.mono b1.size)
          have ci := cI w2
          rw [decide_eq_true hi] at ci
          clear cl b1 hw2 cI
          go_wp2_with fail
          refine ci.mono ?_; rintro r w3 ⟨rfl, hw3⟩
          replace d0 := (hw3.cell (lt_of_cell d0)).trans d0
          have b3 := b2.trans (hw3.mono b2.size)
          have HB3 := Hid.mk' b3
          clear ci b2 hw3 d1 d2 d3 d4 d5 d6 b3
          by_cases hov : 1099511627776 < bs ∨ 1099511627776 < rs + ln
          · have HB : Hid (ofE 0 0 E = (k, 11)) := HBD.out (by rw [hbO, hrO]; exact hov)
            clear HBD HNX hbO hrO
            rcases (show 1099511627776 < bs ∨ (¬ 1099511627776 < bs ∧ 1099511627776 < rs + ln) by omega) with hov | ⟨hov1, hov⟩
            · first | (exfalso; omega) | (go_wp2; go_ret3; exact ⟨_, by rw [HB.out]; rfl, fun h => (by rw [HB.out] at h; cases h), fun _ => rfl, HB3.out⟩)
            · first | (exfalso; omega) | (go_wp2; go_ret3; exact ⟨_, by rw [HB.out]; rfl, fun h => (by rw [HB.out] at h; cases h), fun _ => rfl, HB3.out⟩)
          · have hn1 : ¬ 1099511627776 < bs := fun h => hov (Or.inl h)
            have hn2 : ¬ 1099511627776 < rs + ln := fun h => hov (Or.inr h)
            have hnx := HNX.out (by rw [hbO, hrO]; omega)
            rw [hbO, hrO] at hnx
            have HY := Hid.mk' hnx
            clear HBD HNX hbO hrO hov hnx
            go_wp2
            go_roundw
            case rel => exact ⟨k + 1, by omega, by go_num, by rw [HY.out.2.1], by rw [HY.out.2.2], HY.out.1, HB3.out⟩
            case measure => simp [RowKit.intOf]; omega
        · subst hi
          rw [if_pos (by omega)] at hbO
          rw [if_neg (by omega)] at hrO
          replace hbO := congrArg (fun z => bs + z) hbO
          replace hrO := congrArg (fun z => rs + z) hrO
          try simp only [Int.add_zero] at hbO
          try simp only [Int.add_zero] at hrO
          go_wp2_with fail
          refine cC.mono ?_; rintro r w1 ⟨rfl, hw1⟩
          obtain ⟨⟨d0, d1, d2, d3, d4, d5, d6⟩, b1⟩ := HX.out w1 hw1
          simp only [Nat.zero_add, slV] at d0 d1 d2 d3 d4 d5 d6
          have cl := cL w1
          clear cC c0 c1 c2 c3 c4 c5 c6 hw1 cL
          go_wp2_with fail
          refine cl.mono ?_; rintro r w2 ⟨rfl, hw2⟩
          replace d0 := (hw2.cell (lt_of_cell d0)).trans d0
          replace d1 := (hw2.cell (lt_of_cell d1)).trans d1
          replace d2 := (hw2.cell (lt_of_cell d2)).trans d2
          replace d3 := (hw2.cell (lt_of_cell d3)).trans d3
          replace d4 := (hw2.cell (lt_of_cell d4)).trans d4
          replace d5 := (hw2.cell (lt_of_cell d5)).trans d5
          replace d6 := (hw2.cell (lt_of_cell d6)).trans d6
          have b2 := b1.trans (hw2.mono b1.size)
          have ci := cI w2
          rw [decide_eq_false (by omega)] at ci
          clear cl b1 hw2 cI
          go_wp2_with fail
          refine ci.mono ?_; rintro r w3 ⟨rfl, hw3⟩
          replace d0 := (hw3.cell (lt_of_cell d0)).trans d0
          have b3 := b2.trans (hw3.mono b2.size)
          have HB3 := Hid.mk' b3
          clear ci b2 hw3 d1 d2 d3 d4 d5 d6 b3
          by_cases hov : 1099511627776 < bs + ln ∨ 1099511627776 < rs + ln
          · have HB : Hid (ofE 0 0 E = (k, 11)) := HBD.out (by rw [hbO, hrO]; exact hov)
            clear HBD HNX hbO hrO
            rcases (show 1099511627776 < bs + ln ∨ (¬ 1099511627776 < bs + ln ∧ 1099511627776 < rs + ln) by omega) with hov | ⟨hov1, hov⟩
            · first | (exfalso; omega) | (go_wp2; go_ret3; exact ⟨_, by rw [HB.out]; rfl, fun h => (by rw [HB.out] at h; cases h), fun _ => rfl, HB3.out⟩)
            · first | (exfalso; omega) | (go_wp2; go_ret3; exact ⟨_, by rw [HB.out]; rfl, fun h => (by rw [HB.out] at h; cases h), fun _ => rfl, HB3.out⟩)
          · have hn1 : ¬ 1099511627776 < bs + ln := fun h => hov (Or.inl h)
            have hn2 : ¬ 1099511627776 < rs + ln := fun h => hov (Or.inr h)
            have hnx := HNX.out (by rw [hbO, hrO]; omega)
            rw [hbO, hrO] at hnx
            have HY := Hid.mk' hnx
            clear HBD HNX hbO hrO hov hnx
            go_wp2
            go_roundw
            case rel => exact ⟨k + 1, by omega, by go_num, by rw [HY.out.2.1], by rw [HY.out.2.2], HY.out.1, HB3.out⟩
            case measure => simp [RowKit.intOf]; omega
        · subst hi
          rw [if_pos (by omega)] at hbO
          rw [if_pos (by omega)] at hrO
          replace hbO := congrArg (fun z => bs + z) hbO
          replace hrO := congrArg (fun z => rs + z) hrO
          try simp only [Int.add_zero] at hbO
          try simp only [Int.add_zero] at hrO
          go_wp2_with fail
          refine cC.mono ?_; rintro r w1 ⟨rfl, hw1⟩
          obtain ⟨⟨d0, d1, d2, d3, d4, d5, d6⟩, b1⟩ := HX.out w1 hw1
          simp only [Nat.zero_add, slV] at d0 d1 d2 d3 d4 d5 d6
          have cl := cL w1
          clear cC c0 c1 c2 c3 c4 c5 c6 hw1 cL
          go_wp2_with fail
          refine cl.mono ?_; rintro r w2 ⟨rfl, hw2⟩
          replace d0 := (hw2.cell (lt_of_cell d0)).trans d0
          replace d1 := (hw2.cell (lt_of_cell d1)).trans d1
          replace d2 := (hw2.cell (lt_of_cell d2)).trans d2
          replace d3 := (hw2.cell (lt_of_cell d3)).trans d3
          replace d4 := (hw2.cell (lt_of_cell d4)).trans d4
          replace d5 := (hw2.cell (lt_of_cell d5)).trans d5
          replace d6 := (hw2.cell (lt_of_cell d6)).trans d6
          have b2 := b1.trans (hw2.mono b1.size)
          have ci := cI w2
          rw [decide_eq_false (by omega)] at ci
          clear cl b1 hw2 cI
          go_wp2_with fail
          refine ci.mono ?_; rintro r w3 ⟨rfl, hw3⟩
          replace d0 := (hw3.cell (lt_of_cell d0)).trans d0
          have b3 := b2.trans (hw3.mono b2.size)
          have HB3 := Hid.mk' b3
          clear ci b2 hw3 d1 d2 d3 d4 d5 d6 b3
          by_cases hov : 1099511627776 < bs + ln ∨ 1099511627776 < rs
          · have HB : Hid (ofE 0 0 E = (k, 11)) := HBD.out (by rw [hbO, hrO]; exact hov)
            clear HBD HNX hbO hrO
            rcases (show 1099511627776 < bs + ln ∨ (¬ 1099511627776 < bs + ln ∧ 1099511627776 < rs) by omega) with hov | ⟨hov1, hov⟩
            · first | (exfalso; omega) | (go_wp2; go_ret3; exact ⟨_, by rw [HB.out]; rfl, fun h => (by rw [HB.out] at h; cases h), fun _ => rfl, HB3.out⟩)
            · first | (exfalso; omega) | (go_wp2; go_ret3; exact ⟨_, by rw [HB.out]; rfl, fun h => (by rw [HB.out] at h; cases h), fun _ => rfl, HB3.out⟩)
          · have hn1 : ¬ 1099511627776 < bs + ln := fun h => hov (Or.inl h)
            have hn2 : ¬ 1099511627776 < rs := fun h => hov (Or.inr h)
            have hnx := HNX.out (by rw [hbO, hrO]; omega)
            rw [hbO, hrO] at hnx
            have HY := Hid.mk' hnx
            clear HBD HNX hbO hrO hov hnx
            go_wp2
            go_roundw
            case rel => exact ⟨k + 1, by omega, by go_num, by rw [HY.out.2.1], by rw [HY.out.2.2], HY.out.1, HB3.out⟩
            case measure => simp [RowKit.intOf]; omega
      · obtain ⟨x, hx⟩ : ∃ x, opE e = x + 1 := ⟨opE e - 1, by omega⟩
        have HBD : Hid (ofE 0 0 E = (k, x + 1)) := ofE_no he HO.out (by unfold refE; rw [if_pos hz, hx])
        rw [hx] at cC
        have hx0 : ((x : Int) + 1 != 0) = true := by simp; omega
        clear hz hx HT hT hem hat hrn bw HR CC hfe he hbs hrs HO
        obtain ⟨kk, t, ⟨xx, nn, u⟩, cc, A⟩ := e
        simp only [opC, slV] at c0 c1 c2 c3 c4 c5 c6 cC HX
        go_wp2_with fail
        refine cC.mono ?_; rintro r w1 ⟨rfl, hw1⟩
        obtain ⟨_, b1⟩ := HX.out w1 hw1
        have HB1 := Hid.mk' b1
        clear cC c0 c1 c2 c3 c4 c5 c6 hw1 b1
        go_wp2
        go_ret3
        exact ⟨_, by rw [HBD.out]; rfl, fun h => (by rw [HBD.out] at h; cases h), fun _ => rfl, HB1.out⟩
    · have hltI : ¬ (k : Int) < n := by omega
      have hE : E.take k = E := List.take_of_length_le (by have := HN.out.1; omega)
      rw [hE] at HO
      have HBD : Hid (ofE 0 0 E = (0, 0)) := ofE_ok E 0 0 HO.out.good (by have := HO.out.base; omega) (by have := HO.out.res; omega)
      have cK := CK.out HO.out wr hbw
      clear hE HO hbs hrs CK CC
      go_wp2_with fail
      refine cK.mono ?_; rintro r w5 ⟨dv, rfl, ⟨D5, h5, h6⟩, hb5⟩
      have H5 : Hid (FarO w5 w.heap.size dv D5 ∧ ReD w0 D5 (canonL E)) := ⟨h5.weaken hbw.size, h6⟩
      have B5 : Hid (Below w.heap.size w w5) := hbw.trans (hb5.mono hbw.size)
      clear cK h5 h6 hb5
      go_wp2
      go_ret3
      exact ⟨_, by rw [HBD.out]; rfl, fun _ => ⟨_, H5.out⟩, fun h => (by rw [HBD.out] at h; exact absurd rfl h), B5.out⟩
end Go.Proofs.YthfpmhnnjjikcaaGreatDoor

/- The document's deltas: Lengths, Long. -/
namespace Go.Proofs.YthfpmhnnjjikcaaGreatDoor
open Go Go.RowKit Go.Lib
set_option linter.unusedVariables false

/-- A sum, -1 above the bound. -/
def capM (x : Int) : Int := if 1099511627776 < x then -1 else x
theorem cap_step {x y : Int} (hx : 0 ≤ x) (hy : 0 ≤ y) : (capM x = -1 ∧ capM (x + y) = -1) ∨ (0 ≤ capM x ∧ capM x ≤ 1099511627776 ∧ ¬ 1099511627776 < capM x + y ∧ capM (x + y) = capM x + y) ∨ (0 ≤ capM x ∧ capM x ≤ 1099511627776 ∧ 1099511627776 < capM x + y ∧ capM (x + y) = -1) := by
  unfold capM
  by_cases h : 1099511627776 < x
  · rw [if_pos h, if_pos (by omega)]; exact Or.inl ⟨rfl, rfl⟩
  · rw [if_neg h]
    by_cases h2 : 1099511627776 < x + y
    · rw [if_pos h2]; exact Or.inr (Or.inr ⟨hx, by omega, h2, rfl⟩)
    · rw [if_neg h2]; exact Or.inr (Or.inl ⟨hx, by omega, h2, rfl⟩)
theorem cap_neg {x : Int} (hx : 0 ≤ x) : decide (capM x < 0) = decide (1099511627776 < x) := by
  unfold capM
  by_cases h : 1099511627776 < x
  · rw [if_pos h]; simp [h]
  · rw [if_neg h]; simp [h]; omega
set_option maxHeartbeats 40000000 in
set_option maxRecDepth 100000 in
theorem lens6_any {w0 : World} (va : Value) (D0 : List OV) (E : List Op5) (w : World) (hb0 : Below w0.heap.size w0 w) (hrow : RowO w va D0) (hre : ReD w0 D0 E) (hg : ∀ o ∈ E, opE o = 0) (hF : FitL E) (hl : E.length ≤ 2097152) :
    Calls Tryz.prog 95 #[va] w fun r w' => r = .returned (.tuple #[.int .i64 (capM (sumB E)), .int .i64 (capM (sumR E))]) ∧ Below w.heap.size w w' := by
  have hDE := forall2_len hre
  obtain ⟨n, hn⟩ : ∃ n, E.length = n := ⟨_, rfl⟩
  obtain ⟨p, cap, rfl, hcap, hnz, hc⟩ := hrow
  have HR : Hid (∀ k, k < n → ∃ (e : Op5) (b off : Nat) (sp : Option Addr) (sl sc : Nat), E[k]? = some e ∧ p = some ⟨b, off, none⟩ ∧ OpAt w b (off + k * 7) (e.k, e.t, e.v, e.c, (sp, sl, sc)) ∧ RN w0 (.slice sp sl sc) e.A) := fun k hk => by
    obtain ⟨d, hd⟩ : ∃ d, D0[k]? = some d := ⟨_, List.getElem?_eq_getElem (by omega)⟩
    obtain ⟨e, he, h1, h2, h3, h4, h5⟩ := forall2_get hre k d hd
    obtain ⟨b, off, hp, hat⟩ := hc k d hd
    obtain ⟨dk, dt, dv, dc, sp, sl, sc⟩ := d
    simp only at h1 h2 h3 h4
    subst h1; subst h2; subst h3; subst h4
    exact ⟨e, b, off, sp, sl, sc, he, hp, hat, h5⟩
  have HN : Hid (E.length = n ∧ FitL E ∧ ∀ o ∈ E, opE o = 0) := ⟨hn, hF, hg⟩
  have hnl : n ≤ 2097152 := by omega
  rw [hDE, hn] at hcap ⊢
  clear hc hDE hre hnz hn hF hg hl
  go_enter Tryz.func95, Tryz.ntmps95
  go_wp2
  go_loopw [4, 5, 11] (fun bb rr i wr => ∃ (k : Nat), k ≤ n ∧ i = .int .i64 k ∧ bb = .int .i64 (capM (sumB (E.take k))) ∧ rr = .int .i64 (capM (sumR (E.take k))) ∧ Below w.heap.size w wr) (fun _ _ i _ => n - (RowKit.intOf i).toNat)
  case atStart => exact ⟨0, Nat.zero_le _, rfl, by rw [List.take_zero]; rfl, by rw [List.take_zero]; rfl, Below.refl _ _⟩
  case round =>
    obtain ⟨k, hk, rfl, rfl, rfl, hbw⟩ := hrel
    by_cases hlt : k < n
    · have hltI : (k : Int) < n := by omega
      have hk0 : (0 : Int) ≤ (k : Int) := by omega
      obtain ⟨e, b, off, sp, sl, sc, he, rfl, hat, hrn⟩ := HR.out k hlt
      have hem := List.mem_of_getElem? he
      have hfe := HN.out.2.1 e hem
      have hz := HN.out.2.2 e hem
      have hs0 := sums_nn (E := E.take k) (fun o ho => wel_of (HN.out.2.2 o (List.mem_of_mem_take ho)))
      obtain ⟨c0, c1, c2, c3, c4, c5, c6⟩ := hat.below hbw
      have bw : Below wr.heap.size wr (wr.alloc (.cells (opC e (.slice sp sl sc)) 33)) := (Below.refl _ _).alloc (Nat.le_refl _) _
      have HX : Hid (∀ W, Below (wr.alloc (.cells (opC e (.slice sp sl sc)) 33)).heap.size (wr.alloc (.cells (opC e (.slice sp sl sc)) 33)) W → OpAt W wr.heap.size 0 (e.k, e.t, e.v, e.c, (sp, sl, sc)) ∧ Below w.heap.size w W) := fun W hW => ⟨OpAt.below (w := wr.alloc (.cells (opC e (.slice sp sl sc)) 33)) ⟨by simp [opC], by simp [opC], by simp [opC], by simp [opC], by simp [opC], by simp [opC], by simp [opC, slV]⟩ hW, hbw.trans ((bw.trans (hW.mono bw.size)).mono hbw.size)⟩
      have hT : E.take (k + 1) = E.take k ++ [e] := by rw [List.take_add_one, he]; rfl
      have hln := len5_range hz hfe
      have hkk := kinds_of hz
      have cL := len6_any e sp sl sc (wr.alloc (.cells (opC e (.slice sp sl sc)) 33)) hz hfe.t
      have cI := fun W => ins6_any e sp sl sc W
      have hbO : baseO e = if e.k = 3 ∨ e.k = 4 then len5 e else 0 := rfl
      have hrO : resO e = if e.k = 4 then 0 else len5 e := rfl
      have hnb : sumB (E.take (k + 1)) = sumB (E.take k) + baseO e := by rw [hT, sumB_append, sumB_one]
      have hnr : sumR (E.take (k + 1)) = sumR (E.take k) + resO e := by rw [hT, sumR_append, sumR_one]
      have sb := cap_step (x := sumB (E.take k)) (y := baseO e) hs0.1 (base_range hz hfe).1
      have sr := cap_step (x := sumR (E.take k)) (y := resO e) hs0.2 (res_range hz hfe).1
      rw [← hnb] at sb
      rw [← hnr] at sr
      obtain ⟨nb, hnb'⟩ : ∃ x, capM (sumB (E.take (k + 1))) = x := ⟨_, rfl⟩
      obtain ⟨nr, hnr'⟩ : ∃ x, capM (sumR (E.take (k + 1))) = x := ⟨_, rfl⟩
      have HNB := Hid.mk' hnb'
      have HNR := Hid.mk' hnr'
      rw [hnb'] at sb
      rw [hnr'] at sr
      obtain ⟨bs, hbs⟩ : ∃ x, capM (sumB (E.take k)) = x := ⟨_, rfl⟩
      obtain ⟨rs, hrs⟩ : ∃ x, capM (sumR (E.take k)) = x := ⟨_, rfl⟩
      rw [hbs] at sb ⊢
      rw [hrs] at sr ⊢
      rw [hbO] at sb
      rw [hrO] at sr
      obtain ⟨ln, hll⟩ : ∃ x, len5 e = x := ⟨_, rfl⟩
      rw [hll] at hln cL sb sr
      have hln2 : ¬ 1099511627776 < ln := by omega
      clear hz hll hT hem hat hrn bw HR hfe he hbO hrO hnb hnr hnb' hnr' hbs hrs hs0
      obtain ⟨kk, t, ⟨xx, nn, u⟩, cc, A⟩ := e
      simp only [opC, slV] at c0 c1 c2 c3 c4 c5 c6 cL cI hkk HX sb sr
      go_wp2_with fail
      refine cL.mono ?_; rintro r w2 ⟨rfl, hw2⟩
      obtain ⟨⟨d0, d1, d2, d3, d4, d5, d6⟩, b2⟩ := HX.out w2 hw2
      simp only [Nat.zero_add, slV] at d0 d1 d2 d3 d4 d5 d6
      have ci := cI w2
      have HB2 := Hid.mk' b2
      have HU : Hid (∀ W, Below w2.heap.size w2 W → W.cell? ⟨wr.heap.size, 0, none⟩ = some (.int .i64 kk) ∧ Below w.heap.size w W) := fun W hW => ⟨(hW.cell (lt_of_cell d0)).trans d0, b2.trans (hW.mono b2.size)⟩
      clear cL c0 c1 c2 c3 c4 c5 c6 hw2 cI HX b2
      rcases (show (kk = 1 ∨ kk = 2) ∨ kk = 3 ∨ kk = 4 by omega) with hi | hi | hi
      · have hk4 : (kk != 4) = true := by simp; omega
        rw [if_neg (by omega)] at sb
        rw [if_neg (by omega)] at sr
        rw [decide_eq_true hi] at ci
        try simp only [Int.add_zero] at sb
        try simp only [Int.add_zero] at sr
        rcases sb with ⟨b1, b2⟩ | ⟨b1, b2, b3, b4⟩ | ⟨b1, b2, b3, b4⟩ <;> rcases sr with ⟨r1, r2⟩ | ⟨r1, r2, r3, r4⟩ | ⟨r1, r2, r3, r4⟩
        · subst b1; subst b2; subst r1; subst r2
          have HB3 := HB2
          go_wp2
          go_roundw
          case rel => exact ⟨k + 1, by omega, by go_num, by rw [HNB.out], by rw [HNR.out], HB3.out⟩
          case measure => simp [RowKit.intOf]; omega
        · have r5 : ¬ 1099511627776 < rs := by omega
          subst b1; subst b2; subst r4
          have HB3 := HB2
          go_wp2
          go_roundw
          case rel => exact ⟨k + 1, by omega, by go_num, by rw [HNB.out], by rw [HNR.out], HB3.out⟩
          case measure => simp [RowKit.intOf]; omega
        · have r5 : ¬ 1099511627776 < rs := by omega
          subst b1; subst b2; subst r4
          have HB3 := HB2
          go_wp2
          go_roundw
          case rel => exact ⟨k + 1, by omega, by go_num, by rw [HNB.out], by rw [HNR.out], HB3.out⟩
          case measure => simp [RowKit.intOf]; omega
        · have b5 : ¬ 1099511627776 < bs := by omega
          subst b4; subst r1; subst r2
          go_wp2_with fail
          refine ci.mono ?_; rintro r w3 ⟨rfl, hw3⟩
          have d9 := (HU.out w3 hw3).1
          have HB3 := Hid.mk' (HU.out w3 hw3).2
          clear ci hw3 d0 d1 d2 d3 d4 d5 d6 HB2 HU
          go_wp2
          go_roundw
          case rel => exact ⟨k + 1, by omega, by go_num, by rw [HNB.out], by rw [HNR.out], HB3.out⟩
          case measure => simp [RowKit.intOf]; omega
        · have b5 : ¬ 1099511627776 < bs := by omega
          have r5 : ¬ 1099511627776 < rs := by omega
          subst b4; subst r4
          go_wp2_with fail
          refine ci.mono ?_; rintro r w3 ⟨rfl, hw3⟩
          have d9 := (HU.out w3 hw3).1
          have HB3 := Hid.mk' (HU.out w3 hw3).2
          clear ci hw3 d0 d1 d2 d3 d4 d5 d6 HB2 HU
          go_wp2
          go_roundw
          case rel => exact ⟨k + 1, by omega, by go_num, by rw [HNB.out], by rw [HNR.out], HB3.out⟩
          case measure => simp [RowKit.intOf]; omega
        · have b5 : ¬ 1099511627776 < bs := by omega
          have r5 : ¬ 1099511627776 < rs := by omega
          subst b4; subst r4
          go_wp2_with fail
          refine ci.mono ?_; rintro r w3 ⟨rfl, hw3⟩
          have d9 := (HU.out w3 hw3).1
          have HB3 := Hid.mk' (HU.out w3 hw3).2
          clear ci hw3 d0 d1 d2 d3 d4 d5 d6 HB2 HU
          go_wp2
          go_roundw
          case rel => exact ⟨k + 1, by omega, by go_num, by rw [HNB.out], by rw [HNR.out], HB3.out⟩
          case measure => simp [RowKit.intOf]; omega
        · exfalso; omega
        · exfalso; omega
        · exfalso; omega
      · subst hi
        rw [if_pos (by omega)] at sb
        rw [if_neg (by omega)] at sr
        rw [decide_eq_false (by omega)] at ci
        try simp only [Int.add_zero] at sb
        try simp only [Int.add_zero] at sr
        rcases sb with ⟨b1, b2⟩ | ⟨b1, b2, b3, b4⟩ | ⟨b1, b2, b3, b4⟩ <;> rcases sr with ⟨r1, r2⟩ | ⟨r1, r2, r3, r4⟩ | ⟨r1, r2, r3, r4⟩
        · subst b1; subst b2; subst r1; subst r2
          have HB3 := HB2
          go_wp2
          go_roundw
          case rel => exact ⟨k + 1, by omega, by go_num, by rw [HNB.out], by rw [HNR.out], HB3.out⟩
          case measure => simp [RowKit.intOf]; omega
        · have r5 : ¬ 1099511627776 < rs := by omega
          subst b1; subst b2; subst r4
          have HB3 := HB2
          go_wp2
          go_roundw
          case rel => exact ⟨k + 1, by omega, by go_num, by rw [HNB.out], by rw [HNR.out], HB3.out⟩
          case measure => simp [RowKit.intOf]; omega
        · have r5 : ¬ 1099511627776 < rs := by omega
          subst b1; subst b2; subst r4
          have HB3 := HB2
          go_wp2
          go_roundw
          case rel => exact ⟨k + 1, by omega, by go_num, by rw [HNB.out], by rw [HNR.out], HB3.out⟩
          case measure => simp [RowKit.intOf]; omega
        · have b5 : ¬ 1099511627776 < bs := by omega
          subst b4; subst r1; subst r2
          go_wp2_with fail
          refine ci.mono ?_; rintro r w3 ⟨rfl, hw3⟩
          have d9 := (HU.out w3 hw3).1
          have HB3 := Hid.mk' (HU.out w3 hw3).2
          clear ci hw3 d0 d1 d2 d3 d4 d5 d6 HB2 HU
          go_wp2
          go_roundw
          case rel => exact ⟨k + 1, by omega, by go_num, by rw [HNB.out], by rw [HNR.out], HB3.out⟩
          case measure => simp [RowKit.intOf]; omega
        · have b5 : ¬ 1099511627776 < bs := by omega
          have r5 : ¬ 1099511627776 < rs := by omega
          subst b4; subst r4
          go_wp2_with fail
          refine ci.mono ?_; rintro r w3 ⟨rfl, hw3⟩
          have d9 := (HU.out w3 hw3).1
          have HB3 := Hid.mk' (HU.out w3 hw3).2
          clear ci hw3 d0 d1 d2 d3 d4 d5 d6 HB2 HU
          go_wp2
          go_roundw
          case rel => exact ⟨k + 1, by omega, by go_num, by rw [HNB.out], by rw [HNR.out], HB3.out⟩
          case measure => simp [RowKit.intOf]; omega
        · have b5 : ¬ 1099511627776 < bs := by omega
          have r5 : ¬ 1099511627776 < rs := by omega
          subst b4; subst r4
          go_wp2_with fail
          refine ci.mono ?_; rintro r w3 ⟨rfl, hw3⟩
          have d9 := (HU.out w3 hw3).1
          have HB3 := Hid.mk' (HU.out w3 hw3).2
          clear ci hw3 d0 d1 d2 d3 d4 d5 d6 HB2 HU
          go_wp2
          go_roundw
          case rel => exact ⟨k + 1, by omega, by go_num, by rw [HNB.out], by rw [HNR.out], HB3.out⟩
          case measure => simp [RowKit.intOf]; omega
        · have b5 : ¬ 1099511627776 < bs := by omega
          subst b4; subst r1; subst r2
          go_wp2_with fail
          refine ci.mono ?_; rintro r w3 ⟨rfl, hw3⟩
          have d9 := (HU.out w3 hw3).1
          have HB3 := Hid.mk' (HU.out w3 hw3).2
          clear ci hw3 d0 d1 d2 d3 d4 d5 d6 HB2 HU
          go_wp2
          go_roundw
          case rel => exact ⟨k + 1, by omega, by go_num, by rw [HNB.out], by rw [HNR.out], HB3.out⟩
          case measure => simp [RowKit.intOf]; omega
        · have r5 : ¬ 1099511627776 < rs := by omega
          have b5 : ¬ 1099511627776 < bs := by omega
          subst b4; subst r4
          go_wp2_with fail
          refine ci.mono ?_; rintro r w3 ⟨rfl, hw3⟩
          have d9 := (HU.out w3 hw3).1
          have HB3 := Hid.mk' (HU.out w3 hw3).2
          clear ci hw3 d0 d1 d2 d3 d4 d5 d6 HB2 HU
          go_wp2
          go_roundw
          case rel => exact ⟨k + 1, by omega, by go_num, by rw [HNB.out], by rw [HNR.out], HB3.out⟩
          case measure => simp [RowKit.intOf]; omega
        · have b5 : ¬ 1099511627776 < bs := by omega
          have r5 : ¬ 1099511627776 < rs := by omega
          subst b4; subst r4
          go_wp2_with fail
          refine ci.mono ?_; rintro r w3 ⟨rfl, hw3⟩
          have d9 := (HU.out w3 hw3).1
          have HB3 := Hid.mk' (HU.out w3 hw3).2
          clear ci hw3 d0 d1 d2 d3 d4 d5 d6 HB2 HU
          go_wp2
          go_roundw
          case rel => exact ⟨k + 1, by omega, by go_num, by rw [HNB.out], by rw [HNR.out], HB3.out⟩
          case measure => simp [RowKit.intOf]; omega
      · subst hi
        rw [if_pos (by omega)] at sb
        rw [if_pos (by omega)] at sr
        rw [decide_eq_false (by omega)] at ci
        try simp only [Int.add_zero] at sb
        try simp only [Int.add_zero] at sr
        rcases sb with ⟨b1, b2⟩ | ⟨b1, b2, b3, b4⟩ | ⟨b1, b2, b3, b4⟩ <;> rcases sr with ⟨r1, r2⟩ | ⟨r1, r2, r3, r4⟩ | ⟨r1, r2, r3, r4⟩
        · subst b1; subst b2; subst r1; subst r2
          have HB3 := HB2
          go_wp2
          go_roundw
          case rel => exact ⟨k + 1, by omega, by go_num, by rw [HNB.out], by rw [HNR.out], HB3.out⟩
          case measure => simp [RowKit.intOf]; omega
        · have r5 : ¬ 1099511627776 < rs := by omega
          subst b1; subst b2; subst r4
          have HB3 := HB2
          go_wp2
          go_roundw
          case rel => exact ⟨k + 1, by omega, by go_num, by rw [HNB.out], by rw [HNR.out], HB3.out⟩
          case measure => simp [RowKit.intOf]; omega
        · exfalso; omega
        · have b5 : ¬ 1099511627776 < bs := by omega
          subst b4; subst r1; subst r2
          go_wp2_with fail
          refine ci.mono ?_; rintro r w3 ⟨rfl, hw3⟩
          have d9 := (HU.out w3 hw3).1
          have HB3 := Hid.mk' (HU.out w3 hw3).2
          clear ci hw3 d0 d1 d2 d3 d4 d5 d6 HB2 HU
          go_wp2
          go_roundw
          case rel => exact ⟨k + 1, by omega, by go_num, by rw [HNB.out], by rw [HNR.out], HB3.out⟩
          case measure => simp [RowKit.intOf]; omega
        · have b5 : ¬ 1099511627776 < bs := by omega
          have r5 : ¬ 1099511627776 < rs := by omega
          subst b4; subst r4
          go_wp2_with fail
          refine ci.mono ?_; rintro r w3 ⟨rfl, hw3⟩
          have d9 := (HU.out w3 hw3).1
          have HB3 := Hid.mk' (HU.out w3 hw3).2
          clear ci hw3 d0 d1 d2 d3 d4 d5 d6 HB2 HU
          go_wp2
          go_roundw
          case rel => exact ⟨k + 1, by omega, by go_num, by rw [HNB.out], by rw [HNR.out], HB3.out⟩
          case measure => simp [RowKit.intOf]; omega
        · exfalso; omega
        · have b5 : ¬ 1099511627776 < bs := by omega
          subst b4; subst r1; subst r2
          go_wp2_with fail
          refine ci.mono ?_; rintro r w3 ⟨rfl, hw3⟩
          have d9 := (HU.out w3 hw3).1
          have HB3 := Hid.mk' (HU.out w3 hw3).2
          clear ci hw3 d0 d1 d2 d3 d4 d5 d6 HB2 HU
          go_wp2
          go_roundw
          case rel => exact ⟨k + 1, by omega, by go_num, by rw [HNB.out], by rw [HNR.out], HB3.out⟩
          case measure => simp [RowKit.intOf]; omega
        · have r5 : ¬ 1099511627776 < rs := by omega
          have b5 : ¬ 1099511627776 < bs := by omega
          subst b4; subst r4
          go_wp2_with fail
          refine ci.mono ?_; rintro r w3 ⟨rfl, hw3⟩
          have d9 := (HU.out w3 hw3).1
          have HB3 := Hid.mk' (HU.out w3 hw3).2
          clear ci hw3 d0 d1 d2 d3 d4 d5 d6 HB2 HU
          go_wp2
          go_roundw
          case rel => exact ⟨k + 1, by omega, by go_num, by rw [HNB.out], by rw [HNR.out], HB3.out⟩
          case measure => simp [RowKit.intOf]; omega
        · exfalso; omega
    · have hltI : ¬ (k : Int) < n := by omega
      have hE : E.take k = E := List.take_of_length_le (by have := HN.out.1; omega)
      rw [hE]
      clear hE
      go_wp2
      go_ret2
      exact ⟨rfl, hbw⟩
end Go.Proofs.YthfpmhnnjjikcaaGreatDoor

/- The document's deltas: Long. -/
namespace Go.Proofs.YthfpmhnnjjikcaaGreatDoor
open Go Go.RowKit Go.Lib
set_option linter.unusedVariables false

set_option maxHeartbeats 4000000 in
theorem long6_any {w0 : World} (va : Value) (D0 : List OV) (E : List Op5) (w : World) (hb0 : Below w0.heap.size w0 w) (hrow : RowO w va D0) (hre : ReD w0 D0 E) (hg : ∀ o ∈ E, opE o = 0) (hF : FitL E) (hl : E.length ≤ 2097152) :
    Calls Tryz.prog 60 #[va] w fun r w' => r = .returned (.bool (decide (1099511627776 < sumB E ∨ 1099511627776 < sumR E))) ∧ Below w.heap.size w w' := by
  have c1 := lens6_any va D0 E w hb0 hrow hre hg hF hl
  have hs := sums_nn (E := E) (fun o ho => wel_of (hg o ho))
  obtain ⟨b, hb⟩ : ∃ x, sumB E = x := ⟨_, rfl⟩
  obtain ⟨r, hr⟩ : ∃ x, sumR E = x := ⟨_, rfl⟩
  rw [hb, hr] at c1 hs ⊢
  have e1 := cap_neg hs.1
  have e2 := cap_neg hs.2
  have hd : decide (1099511627776 < b ∨ 1099511627776 < r) = (decide (capM b < 0) || decide (capM r < 0)) := by rw [e1, e2]; simp [Bool.decide_or]
  rw [hd]
  obtain ⟨p, cap, rfl, _⟩ := hrow
  obtain ⟨x, hx⟩ : ∃ x, capM b = x := ⟨_, rfl⟩
  obtain ⟨y, hy⟩ : ∃ y, capM r = y := ⟨_, rfl⟩
  rw [hx, hy] at c1 ⊢
  clear hb hr hs e1 e2 hd hx hy hre hg hF hl hb0
  by_cases h : x < 0
  · rw [decide_eq_true h, Bool.true_or]
    go_enter Tryz.func60, Tryz.ntmps60
    go_wp2_with fail
    refine c1.mono ?_; rintro r w1 ⟨rfl, hb1⟩
    clear c1
    go_wp2
    go_ret
    exact ⟨rfl, hb1⟩
  · rw [decide_eq_false h, Bool.false_or]
    go_enter Tryz.func60, Tryz.ntmps60
    go_wp2_with fail
    refine c1.mono ?_; rintro r w1 ⟨rfl, hb1⟩
    clear c1
    go_wp2
    go_ret
    exact ⟨by simp; omega, hb1⟩
end Go.Proofs.YthfpmhnnjjikcaaGreatDoor

/- vellumref06.Lengths and Long of well formed operations whose counts may be above the bound. -/
namespace Go.Proofs.YthfpmhnnjjikcaaGreatDoor
open Go Go.RowKit Go.Lib
set_option linter.unusedVariables false

theorem three_sums' {o : Op5} (h : Wel o) : 0 ≤ baseO o ∧ 0 ≤ resO o := by
  have hk := h.kinds
  have hl : 0 ≤ len5 o := by
    unfold len5
    split
    · omega
    · have := h.count (by omega); omega
  unfold baseO resO
  constructor <;> split <;> omega
theorem insW {o : Op5} (h : Wel o) (hk : o.k = 1 ∨ o.k = 2) : opE o = 0 := by
  rcases h with ⟨hi, _⟩ | ⟨h3, _⟩ | ⟨h4, _⟩
  · exact opE_12 hi hk
  · omega
  · omega
theorem lenW_small {o : Op5} (h : Wel o) (ht : o.t.size ≤ 8388608) (hk : o.k = 1 ∨ o.k = 2) : len5 o ≤ 8388608 := by
  unfold len5 lenO
  rw [if_pos hk]
  split
  · have hu : brk o.t.data.toList = o.t.size := by
      rcases h with ⟨hi, _⟩ | ⟨h3, _⟩ | ⟨h4, _⟩
      · exact hi.utf
      · omega
      · omega
    have := (valid_text o.t hu).2.2
    omega
  · omega
theorem lenW_range {o : Op5} (h : Wel o) (hc : o.c ≤ 2199023255552) (ht : o.t.size ≤ 8388608) : 0 ≤ len5 o ∧ len5 o ≤ 2199023255552 := by
  have h0 := fun hk => lenW_small h ht hk
  by_cases hk : o.k = 1 ∨ o.k = 2
  · have := h0 hk
    have h1 : 0 ≤ len5 o := by unfold len5; rw [if_pos hk]; omega
    omega
  · unfold len5
    rw [if_neg hk]
    have h1 := h.kinds
    have := h.count (by omega)
    omega
set_option maxHeartbeats 1000000 in
theorem len6w_any (o : Op5) (p : Option Addr) (l c : Nat) (w : World) (hw : Wel o) (ht : o.t.size ≤ 8388608) :
    Calls Tryz.prog 100 #[opV o (.slice p l c)] w fun r w' => r = .returned (.int .i64 (len5 o)) ∧ Below w.heap.size w w' := by
  by_cases hk : o.k = 1 ∨ o.k = 2
  · exact len6_any o p l c w (insW hw hk) ht
  · have hkk := hw.kinds
    unfold len5
    rw [if_neg hk]
    obtain ⟨k, t, ⟨x, n, u⟩, cc, A⟩ := o
    simp only at hkk hk
    rcases (show k = 3 ∨ k = 4 by omega) with rfl | rfl
    all_goals
      clear ht hw hk hkk
      go_enter Tryz.func100, Tryz.ntmps100
      go_wp2
      go_ret
      exact ⟨rfl, by go_grown⟩
set_option maxHeartbeats 40000000 in
set_option maxRecDepth 100000 in
theorem lensW_any {w0 : World} (va : Value) (D0 : List OV) (E : List Op5) (w : World) (hb0 : Below w0.heap.size w0 w) (hrow : RowO w va D0) (hre : ReD w0 D0 E) (hw : ∀ o ∈ E, Wel o) (hcc : ∀ o ∈ E, o.c ≤ 2199023255552) (ht : ∀ o ∈ E, o.t.size ≤ 8388608) (hl : E.length ≤ 2097152) :
    Calls Tryz.prog 95 #[va] w fun r w' => r = .returned (.tuple #[.int .i64 (capM (sumB E)), .int .i64 (capM (sumR E))]) ∧ Below w.heap.size w w' := by
  have hDE := forall2_len hre
  obtain ⟨n, hn⟩ : ∃ n, E.length = n := ⟨_, rfl⟩
  obtain ⟨p, cap, rfl, hcap, hnz, hc⟩ := hrow
  have HR : Hid (∀ k, k < n → ∃ (e : Op5) (b off : Nat) (sp : Option Addr) (sl sc : Nat), E[k]? = some e ∧ p = some ⟨b, off, none⟩ ∧ OpAt w b (off + k * 7) (e.k, e.t, e.v, e.c, (sp, sl, sc)) ∧ RN w0 (.slice sp sl sc) e.A) := fun k hk => by
    obtain ⟨d, hd⟩ : ∃ d, D0[k]? = some d := ⟨_, List.getElem?_eq_getElem (by omega)⟩
    obtain ⟨e, he, h1, h2, h3, h4, h5⟩ := forall2_get hre k d hd
    obtain ⟨b, off, hp, hat⟩ := hc k d hd
    obtain ⟨dk, dt, dv, dc, sp, sl, sc⟩ := d
    simp only at h1 h2 h3 h4
    subst h1; subst h2; subst h3; subst h4
    exact ⟨e, b, off, sp, sl, sc, he, hp, hat, h5⟩
  have HN : Hid (E.length = n ∧ (∀ o ∈ E, o.c ≤ 2199023255552 ∧ o.t.size ≤ 8388608) ∧ ∀ o ∈ E, Wel o) := ⟨hn, fun o ho => ⟨hcc o ho, ht o ho⟩, hw⟩
  have hnl : n ≤ 2097152 := by omega
  rw [hDE, hn] at hcap ⊢
  clear hc hDE hre hnz hn hcc ht hw hl
  go_enter Tryz.func95, Tryz.ntmps95
  go_wp2
  go_loopw [4, 5, 11] (fun bb rr i wr => ∃ (k : Nat), k ≤ n ∧ i = .int .i64 k ∧ bb = .int .i64 (capM (sumB (E.take k))) ∧ rr = .int .i64 (capM (sumR (E.take k))) ∧ Below w.heap.size w wr) (fun _ _ i _ => n - (RowKit.intOf i).toNat)
  case atStart => exact ⟨0, Nat.zero_le _, rfl, by rw [List.take_zero]; rfl, by rw [List.take_zero]; rfl, Below.refl _ _⟩
  case round =>
    obtain ⟨k, hk, rfl, rfl, rfl, hbw⟩ := hrel
    by_cases hlt : k < n
    · have hltI : (k : Int) < n := by omega
      have hk0 : (0 : Int) ≤ (k : Int) := by omega
      obtain ⟨e, b, off, sp, sl, sc, he, rfl, hat, hrn⟩ := HR.out k hlt
      have hem := List.mem_of_getElem? he
      have hfe := HN.out.2.1 e hem
      have hz := HN.out.2.2 e hem
      have hs0 := sums_nn (E := E.take k) (fun o ho => HN.out.2.2 o (List.mem_of_mem_take ho))
      obtain ⟨c0, c1, c2, c3, c4, c5, c6⟩ := hat.below hbw
      have bw : Below wr.heap.size wr (wr.alloc (.cells (opC e (.slice sp sl sc)) 33)) := (Below.refl _ _).alloc (Nat.le_refl _) _
      have HX : Hid (∀ W, Below (wr.alloc (.cells (opC e (.slice sp sl sc)) 33)).heap.size (wr.alloc (.cells (opC e (.slice sp sl sc)) 33)) W → OpAt W wr.heap.size 0 (e.k, e.t, e.v, e.c, (sp, sl, sc)) ∧ Below w.heap.size w W) := fun W hW => ⟨OpAt.below (w := wr.alloc (.cells (opC e (.slice sp sl sc)) 33)) ⟨by simp [opC], by simp [opC], by simp [opC], by simp [opC], by simp [opC], by simp [opC], by simp [opC, slV]⟩ hW, hbw.trans ((bw.trans (hW.mono bw.size)).mono hbw.size)⟩
      have hT : E.take (k + 1) = E.take k ++ [e] := by rw [List.take_add_one, he]; rfl
      have hln := lenW_range hz hfe.1 hfe.2
      have hkk := hz.kinds
      have hsmall := fun h => lenW_small hz hfe.2 h
      have cL := len6w_any e sp sl sc (wr.alloc (.cells (opC e (.slice sp sl sc)) 33)) hz hfe.2
      have cI := fun W => ins6_any e sp sl sc W
      have hbO : baseO e = if e.k = 3 ∨ e.k = 4 then len5 e else 0 := rfl
      have hrO : resO e = if e.k = 4 then 0 else len5 e := rfl
      have hnb : sumB (E.take (k + 1)) = sumB (E.take k) + baseO e := by rw [hT, sumB_append, sumB_one]
      have hnr : sumR (E.take (k + 1)) = sumR (E.take k) + resO e := by rw [hT, sumR_append, sumR_one]
      have sb := cap_step (x := sumB (E.take k)) (y := baseO e) hs0.1 (by have := three_sums' hz; omega)
      have sr := cap_step (x := sumR (E.take k)) (y := resO e) hs0.2 (by have := three_sums' hz; omega)
      rw [← hnb] at sb
      rw [← hnr] at sr
      obtain ⟨nb, hnb'⟩ : ∃ x, capM (sumB (E.take (k + 1))) = x := ⟨_, rfl⟩
      obtain ⟨nr, hnr'⟩ : ∃ x, capM (sumR (E.take (k + 1))) = x := ⟨_, rfl⟩
      have HNB := Hid.mk' hnb'
      have HNR := Hid.mk' hnr'
      rw [hnb'] at sb
      rw [hnr'] at sr
      obtain ⟨bs, hbs⟩ : ∃ x, capM (sumB (E.take k)) = x := ⟨_, rfl⟩
      obtain ⟨rs, hrs⟩ : ∃ x, capM (sumR (E.take k)) = x := ⟨_, rfl⟩
      rw [hbs] at sb ⊢
      rw [hrs] at sr ⊢
      rw [hbO] at sb
      rw [hrO] at sr
      obtain ⟨ln, hll⟩ : ∃ x, len5 e = x := ⟨_, rfl⟩
      rw [hll] at hln cL sb sr hsmall
      clear hz hll hT hem hat hrn bw HR hfe he hbO hrO hnb hnr hnb' hnr' hbs hrs hs0
      obtain ⟨kk, t, ⟨xx, nn, u⟩, cc, A⟩ := e
      simp only [opC, slV] at c0 c1 c2 c3 c4 c5 c6 cL cI hkk HX sb sr hsmall
      go_wp2_with fail
      refine cL.mono ?_; rintro r w2 ⟨rfl, hw2⟩
      obtain ⟨⟨d0, d1, d2, d3, d4, d5, d6⟩, b2⟩ := HX.out w2 hw2
      simp only [Nat.zero_add, slV] at d0 d1 d2 d3 d4 d5 d6
      have ci := cI w2
      have HB2 := Hid.mk' b2
      have HU : Hid (∀ W, Below w2.heap.size w2 W → W.cell? ⟨wr.heap.size, 0, none⟩ = some (.int .i64 kk) ∧ Below w.heap.size w W) := fun W hW => ⟨(hW.cell (lt_of_cell d0)).trans d0, b2.trans (hW.mono b2.size)⟩
      clear cL c0 c1 c2 c3 c4 c5 c6 hw2 cI HX b2
      by_cases hln2 : 1099511627776 < ln
      · rcases (show kk = 3 ∨ kk = 4 by have := fun h => hsmall h; omega) with hi | hi
        · subst hi
          clear hsmall
          rw [if_pos (by omega)] at sb
          rw [if_neg (by omega)] at sr
          rw [decide_eq_false (by omega)] at ci
          replace sb : (bs = -1 ∧ nb = -1) ∨ (0 ≤ bs ∧ bs ≤ 1099511627776 ∧ 1099511627776 < bs + 1099511627777 ∧ nb = -1) := by omega
          replace sr : (rs = -1 ∧ nr = -1) ∨ (0 ≤ rs ∧ rs ≤ 1099511627776 ∧ 1099511627776 < rs + 1099511627777 ∧ nr = -1) := by omega
          rcases sb with ⟨b1, b2⟩ | ⟨b1, b2, b3, b4⟩ <;> rcases sr with ⟨r1, r2⟩ | ⟨r1, r2, r3, r4⟩
          · subst b1; subst b2; subst r1; subst r2
            have HB3 := HB2
            go_wp2
            go_roundw
            case rel => exact ⟨k + 1, by omega, by go_num, by rw [HNB.out], by rw [HNR.out], HB3.out⟩
            case measure => simp [RowKit.intOf]; omega
          · subst b1; subst b2; subst r4
            have HB3 := HB2
            go_wp2
            go_roundw
            case rel => exact ⟨k + 1, by omega, by go_num, by rw [HNB.out], by rw [HNR.out], HB3.out⟩
            case measure => simp [RowKit.intOf]; omega
          · subst b4; subst r1; subst r2
            go_wp2_with fail
            refine ci.mono ?_; rintro r w3 ⟨rfl, hw3⟩
            have d9 := (HU.out w3 hw3).1
            have HB3 := Hid.mk' (HU.out w3 hw3).2
            clear ci hw3 d0 d1 d2 d3 d4 d5 d6 HB2 HU
            go_wp2
            go_roundw
            case rel => exact ⟨k + 1, by omega, by go_num, by rw [HNB.out], by rw [HNR.out], HB3.out⟩
            case measure => simp [RowKit.intOf]; omega
          · subst b4; subst r4
            go_wp2_with fail
            refine ci.mono ?_; rintro r w3 ⟨rfl, hw3⟩
            have d9 := (HU.out w3 hw3).1
            have HB3 := Hid.mk' (HU.out w3 hw3).2
            clear ci hw3 d0 d1 d2 d3 d4 d5 d6 HB2 HU
            go_wp2
            go_roundw
            case rel => exact ⟨k + 1, by omega, by go_num, by rw [HNB.out], by rw [HNR.out], HB3.out⟩
            case measure => simp [RowKit.intOf]; omega
        · subst hi
          clear hsmall
          rw [if_pos (by omega)] at sb
          rw [if_pos (by omega)] at sr
          rw [decide_eq_false (by omega)] at ci
          replace sb : (bs = -1 ∧ nb = -1) ∨ (0 ≤ bs ∧ bs ≤ 1099511627776 ∧ 1099511627776 < bs + 1099511627777 ∧ nb = -1) := by omega
          replace sr : (rs = -1 ∧ nr = -1) ∨ (0 ≤ rs ∧ rs ≤ 1099511627776 ∧ ¬ 1099511627776 < rs ∧ nr = rs) := by omega
          rcases sb with ⟨b1, b2⟩ | ⟨b1, b2, b3, b4⟩ <;> rcases sr with ⟨r1, r2⟩ | ⟨r1, r2, r3, r4⟩
          · subst b1; subst b2; subst r1; subst r2
            have HB3 := HB2
            go_wp2
            go_roundw
            case rel => exact ⟨k + 1, by omega, by go_num, by rw [HNB.out], by rw [HNR.out], HB3.out⟩
            case measure => simp [RowKit.intOf]; omega
          · subst b1; subst b2; subst r4
            have HB3 := HB2
            go_wp2
            go_roundw
            case rel => exact ⟨k + 1, by omega, by go_num, by rw [HNB.out], by rw [HNR.out], HB3.out⟩
            case measure => simp [RowKit.intOf]; omega
          · subst b4; subst r1; subst r2
            go_wp2_with fail
            refine ci.mono ?_; rintro r w3 ⟨rfl, hw3⟩
            have d9 := (HU.out w3 hw3).1
            have HB3 := Hid.mk' (HU.out w3 hw3).2
            clear ci hw3 d0 d1 d2 d3 d4 d5 d6 HB2 HU
            go_wp2
            go_roundw
            case rel => exact ⟨k + 1, by omega, by go_num, by rw [HNB.out], by rw [HNR.out], HB3.out⟩
            case measure => simp [RowKit.intOf]; omega
          · subst b4; subst r4
            go_wp2_with fail
            refine ci.mono ?_; rintro r w3 ⟨rfl, hw3⟩
            have d9 := (HU.out w3 hw3).1
            have HB3 := Hid.mk' (HU.out w3 hw3).2
            clear ci hw3 d0 d1 d2 d3 d4 d5 d6 HB2 HU
            go_wp2
            go_roundw
            case rel => exact ⟨k + 1, by omega, by go_num, by rw [HNB.out], by rw [HNR.out], HB3.out⟩
            case measure => simp [RowKit.intOf]; omega
      · clear hsmall
        rcases (show (kk = 1 ∨ kk = 2) ∨ kk = 3 ∨ kk = 4 by omega) with hi | hi | hi
        · have hk4 : (kk != 4) = true := by simp; omega
          rw [if_neg (by omega)] at sb
          rw [if_neg (by omega)] at sr
          rw [decide_eq_true hi] at ci
          try simp only [Int.add_zero] at sb
          try simp only [Int.add_zero] at sr
          rcases sb with ⟨b1, b2⟩ | ⟨b1, b2, b3, b4⟩ | ⟨b1, b2, b3, b4⟩ <;> rcases sr with ⟨r1, r2⟩ | ⟨r1, r2, r3, r4⟩ | ⟨r1, r2, r3, r4⟩
          · subst b1; subst b2; subst r1; subst r2
            have HB3 := HB2
            go_wp2
            go_roundw
            case rel => exact ⟨k + 1, by omega, by go_num, by rw [HNB.out], by rw [HNR.out], HB3.out⟩
            case measure => simp [RowKit.intOf]; omega
          · have r5 : ¬ 1099511627776 < rs := by omega
            subst b1; subst b2; subst r4
            have HB3 := HB2
            go_wp2
            go_roundw
            case rel => exact ⟨k + 1, by omega, by go_num, by rw [HNB.out], by rw [HNR.out], HB3.out⟩
            case measure => simp [RowKit.intOf]; omega
          · have r5 : ¬ 1099511627776 < rs := by omega
            subst b1; subst b2; subst r4
            have HB3 := HB2
            go_wp2
            go_roundw
            case rel => exact ⟨k + 1, by omega, by go_num, by rw [HNB.out], by rw [HNR.out], HB3.out⟩
            case measure => simp [RowKit.intOf]; omega
          · have b5 : ¬ 1099511627776 < bs := by omega
            subst b4; subst r1; subst r2
            go_wp2_with fail
            refine ci.mono ?_; rintro r w3 ⟨rfl, hw3⟩
            have d9 := (HU.out w3 hw3).1
            have HB3 := Hid.mk' (HU.out w3 hw3).2
            clear ci hw3 d0 d1 d2 d3 d4 d5 d6 HB2 HU
            go_wp2
            go_roundw
            case rel => exact ⟨k + 1, by omega, by go_num, by rw [HNB.out], by rw [HNR.out], HB3.out⟩
            case measure => simp [RowKit.intOf]; omega
          · have b5 : ¬ 1099511627776 < bs := by omega
            have r5 : ¬ 1099511627776 < rs := by omega
            subst b4; subst r4
            go_wp2_with fail
            refine ci.mono ?_; rintro r w3 ⟨rfl, hw3⟩
            have d9 := (HU.out w3 hw3).1
            have HB3 := Hid.mk' (HU.out w3 hw3).2
            clear ci hw3 d0 d1 d2 d3 d4 d5 d6 HB2 HU
            go_wp2
            go_roundw
            case rel => exact ⟨k + 1, by omega, by go_num, by rw [HNB.out], by rw [HNR.out], HB3.out⟩
            case measure => simp [RowKit.intOf]; omega
          · have b5 : ¬ 1099511627776 < bs := by omega
            have r5 : ¬ 1099511627776 < rs := by omega
            subst b4; subst r4
            go_wp2_with fail
            refine ci.mono ?_; rintro r w3 ⟨rfl, hw3⟩
            have d9 := (HU.out w3 hw3).1
            have HB3 := Hid.mk' (HU.out w3 hw3).2
            clear ci hw3 d0 d1 d2 d3 d4 d5 d6 HB2 HU
            go_wp2
            go_roundw
            case rel => exact ⟨k + 1, by omega, by go_num, by rw [HNB.out], by rw [HNR.out], HB3.out⟩
            case measure => simp [RowKit.intOf]; omega
          · exfalso; omega
          · exfalso; omega
          · exfalso; omega
        · subst hi
          rw [if_pos (by omega)] at sb
          rw [if_neg (by omega)] at sr
          rw [decide_eq_false (by omega)] at ci
          try simp only [Int.add_zero] at sb
          try simp only [Int.add_zero] at sr
          rcases sb with ⟨b1, b2⟩ | ⟨b1, b2, b3, b4⟩ | ⟨b1, b2, b3, b4⟩ <;> rcases sr with ⟨r1, r2⟩ | ⟨r1, r2, r3, r4⟩ | ⟨r1, r2, r3, r4⟩
          · subst b1; subst b2; subst r1; subst r2
            have HB3 := HB2
            go_wp2
            go_roundw
            case rel => exact ⟨k + 1, by omega, by go_num, by rw [HNB.out], by rw [HNR.out], HB3.out⟩
            case measure => simp [RowKit.intOf]; omega
          · have r5 : ¬ 1099511627776 < rs := by omega
            subst b1; subst b2; subst r4
            have HB3 := HB2
            go_wp2
            go_roundw
            case rel => exact ⟨k + 1, by omega, by go_num, by rw [HNB.out], by rw [HNR.out], HB3.out⟩
            case measure => simp [RowKit.intOf]; omega
          · have r5 : ¬ 1099511627776 < rs := by omega
            subst b1; subst b2; subst r4
            have HB3 := HB2
            go_wp2
            go_roundw
            case rel => exact ⟨k + 1, by omega, by go_num, by rw [HNB.out], by rw [HNR.out], HB3.out⟩
            case measure => simp [RowKit.intOf]; omega
          · have b5 : ¬ 1099511627776 < bs := by omega
            subst b4; subst r1; subst r2
            go_wp2_with fail
            refine ci.mono ?_; rintro r w3 ⟨rfl, hw3⟩
            have d9 := (HU.out w3 hw3).1
            have HB3 := Hid.mk' (HU.out w3 hw3).2
            clear ci hw3 d0 d1 d2 d3 d4 d5 d6 HB2 HU
            go_wp2
            go_roundw
            case rel => exact ⟨k + 1, by omega, by go_num, by rw [HNB.out], by rw [HNR.out], HB3.out⟩
            case measure => simp [RowKit.intOf]; omega
          · have b5 : ¬ 1099511627776 < bs := by omega
            have r5 : ¬ 1099511627776 < rs := by omega
            subst b4; subst r4
            go_wp2_with fail
            refine ci.mono ?_; rintro r w3 ⟨rfl, hw3⟩
            have d9 := (HU.out w3 hw3).1
            have HB3 := Hid.mk' (HU.out w3 hw3).2
            clear ci hw3 d0 d1 d2 d3 d4 d5 d6 HB2 HU
            go_wp2
            go_roundw
            case rel => exact ⟨k + 1, by omega, by go_num, by rw [HNB.out], by rw [HNR.out], HB3.out⟩
            case measure => simp [RowKit.intOf]; omega
          · have b5 : ¬ 1099511627776 < bs := by omega
            have r5 : ¬ 1099511627776 < rs := by omega
            subst b4; subst r4
            go_wp2_with fail
            refine ci.mono ?_; rintro r w3 ⟨rfl, hw3⟩
            have d9 := (HU.out w3 hw3).1
            have HB3 := Hid.mk' (HU.out w3 hw3).2
            clear ci hw3 d0 d1 d2 d3 d4 d5 d6 HB2 HU
            go_wp2
            go_roundw
            case rel => exact ⟨k + 1, by omega, by go_num, by rw [HNB.out], by rw [HNR.out], HB3.out⟩
            case measure => simp [RowKit.intOf]; omega
          · have b5 : ¬ 1099511627776 < bs := by omega
            subst b4; subst r1; subst r2
            go_wp2_with fail
            refine ci.mono ?_; rintro r w3 ⟨rfl, hw3⟩
            have d9 := (HU.out w3 hw3).1
            have HB3 := Hid.mk' (HU.out w3 hw3).2
            clear ci hw3 d0 d1 d2 d3 d4 d5 d6 HB2 HU
            go_wp2
            go_roundw
            case rel => exact ⟨k + 1, by omega, by go_num, by rw [HNB.out], by rw [HNR.out], HB3.out⟩
            case measure => simp [RowKit.intOf]; omega
          · have r5 : ¬ 1099511627776 < rs := by omega
            have b5 : ¬ 1099511627776 < bs := by omega
            subst b4; subst r4
            go_wp2_with fail
            refine ci.mono ?_; rintro r w3 ⟨rfl, hw3⟩
            have d9 := (HU.out w3 hw3).1
            have HB3 := Hid.mk' (HU.out w3 hw3).2
            clear ci hw3 d0 d1 d2 d3 d4 d5 d6 HB2 HU
            go_wp2
            go_roundw
            case rel => exact ⟨k + 1, by omega, by go_num, by rw [HNB.out], by rw [HNR.out], HB3.out⟩
            case measure => simp [RowKit.intOf]; omega
          · have b5 : ¬ 1099511627776 < bs := by omega
            have r5 : ¬ 1099511627776 < rs := by omega
            subst b4; subst r4
            go_wp2_with fail
            refine ci.mono ?_; rintro r w3 ⟨rfl, hw3⟩
            have d9 := (HU.out w3 hw3).1
            have HB3 := Hid.mk' (HU.out w3 hw3).2
            clear ci hw3 d0 d1 d2 d3 d4 d5 d6 HB2 HU
            go_wp2
            go_roundw
            case rel => exact ⟨k + 1, by omega, by go_num, by rw [HNB.out], by rw [HNR.out], HB3.out⟩
            case measure => simp [RowKit.intOf]; omega
        · subst hi
          rw [if_pos (by omega)] at sb
          rw [if_pos (by omega)] at sr
          rw [decide_eq_false (by omega)] at ci
          try simp only [Int.add_zero] at sb
          try simp only [Int.add_zero] at sr
          rcases sb with ⟨b1, b2⟩ | ⟨b1, b2, b3, b4⟩ | ⟨b1, b2, b3, b4⟩ <;> rcases sr with ⟨r1, r2⟩ | ⟨r1, r2, r3, r4⟩ | ⟨r1, r2, r3, r4⟩
          · subst b1; subst b2; subst r1; subst r2
            have HB3 := HB2
            go_wp2
            go_roundw
            case rel => exact ⟨k + 1, by omega, by go_num, by rw [HNB.out], by rw [HNR.out], HB3.out⟩
            case measure => simp [RowKit.intOf]; omega
          · have r5 : ¬ 1099511627776 < rs := by omega
            subst b1; subst b2; subst r4
            have HB3 := HB2
            go_wp2
            go_roundw
            case rel => exact ⟨k + 1, by omega, by go_num, by rw [HNB.out], by rw [HNR.out], HB3.out⟩
            case measure => simp [RowKit.intOf]; omega
          · exfalso; omega
          · have b5 : ¬ 1099511627776 < bs := by omega
            subst b4; subst r1; subst r2
            go_wp2_with fail
            refine ci.mono ?_; rintro r w3 ⟨rfl, hw3⟩
            have d9 := (HU.out w3 hw3).1
            have HB3 := Hid.mk' (HU.out w3 hw3).2
            clear ci hw3 d0 d1 d2 d3 d4 d5 d6 HB2 HU
            go_wp2
            go_roundw
            case rel => exact ⟨k + 1, by omega, by go_num, by rw [HNB.out], by rw [HNR.out], HB3.out⟩
            case measure => simp [RowKit.intOf]; omega
          · have b5 : ¬ 1099511627776 < bs := by omega
            have r5 : ¬ 1099511627776 < rs := by omega
            subst b4; subst r4
            go_wp2_with fail
            refine ci.mono ?_; rintro r w3 ⟨rfl, hw3⟩
            have d9 := (HU.out w3 hw3).1
            have HB3 := Hid.mk' (HU.out w3 hw3).2
            clear ci hw3 d0 d1 d2 d3 d4 d5 d6 HB2 HU
            go_wp2
            go_roundw
            case rel => exact ⟨k + 1, by omega, by go_num, by rw [HNB.out], by rw [HNR.out], HB3.out⟩
            case measure => simp [RowKit.intOf]; omega
          · exfalso; omega
          · have b5 : ¬ 1099511627776 < bs := by omega
            subst b4; subst r1; subst r2
            go_wp2_with fail
            refine ci.mono ?_; rintro r w3 ⟨rfl, hw3⟩
            have d9 := (HU.out w3 hw3).1
            have HB3 := Hid.mk' (HU.out w3 hw3).2
            clear ci hw3 d0 d1 d2 d3 d4 d5 d6 HB2 HU
            go_wp2
            go_roundw
            case rel => exact ⟨k + 1, by omega, by go_num, by rw [HNB.out], by rw [HNR.out], HB3.out⟩
            case measure => simp [RowKit.intOf]; omega
          · have r5 : ¬ 1099511627776 < rs := by omega
            have b5 : ¬ 1099511627776 < bs := by omega
            subst b4; subst r4
            go_wp2_with fail
            refine ci.mono ?_; rintro r w3 ⟨rfl, hw3⟩
            have d9 := (HU.out w3 hw3).1
            have HB3 := Hid.mk' (HU.out w3 hw3).2
            clear ci hw3 d0 d1 d2 d3 d4 d5 d6 HB2 HU
            go_wp2
            go_roundw
            case rel => exact ⟨k + 1, by omega, by go_num, by rw [HNB.out], by rw [HNR.out], HB3.out⟩
            case measure => simp [RowKit.intOf]; omega
          · exfalso; omega
    · have hltI : ¬ (k : Int) < n := by omega
      have hE : E.take k = E := List.take_of_length_le (by have := HN.out.1; omega)
      rw [hE]
      clear hE
      go_wp2
      go_ret2
      exact ⟨rfl, hbw⟩
set_option maxHeartbeats 4000000 in
theorem longW_any {w0 : World} (va : Value) (D0 : List OV) (E : List Op5) (w : World) (hb0 : Below w0.heap.size w0 w) (hrow : RowO w va D0) (hre : ReD w0 D0 E) (hw : ∀ o ∈ E, Wel o) (hcc : ∀ o ∈ E, o.c ≤ 2199023255552) (ht : ∀ o ∈ E, o.t.size ≤ 8388608) (hl : E.length ≤ 2097152) :
    Calls Tryz.prog 60 #[va] w fun r w' => r = .returned (.bool (decide (1099511627776 < sumB E ∨ 1099511627776 < sumR E))) ∧ Below w.heap.size w w' := by
  have c1 := lensW_any va D0 E w hb0 hrow hre hw hcc ht hl
  have hs := sums_nn (E := E) hw
  obtain ⟨b, hb⟩ : ∃ x, sumB E = x := ⟨_, rfl⟩
  obtain ⟨r, hr⟩ : ∃ x, sumR E = x := ⟨_, rfl⟩
  rw [hb, hr] at c1 hs ⊢
  have e1 := cap_neg hs.1
  have e2 := cap_neg hs.2
  have hd : decide (1099511627776 < b ∨ 1099511627776 < r) = (decide (capM b < 0) || decide (capM r < 0)) := by rw [e1, e2]; simp [Bool.decide_or]
  rw [hd]
  obtain ⟨p, cap, rfl, _⟩ := hrow
  obtain ⟨x, hx⟩ : ∃ x, capM b = x := ⟨_, rfl⟩
  obtain ⟨y, hy⟩ : ∃ y, capM r = y := ⟨_, rfl⟩
  rw [hx, hy] at c1 ⊢
  clear hb hr hs e1 e2 hd hx hy hre hw hcc ht hl hb0
  by_cases h : x < 0
  · rw [decide_eq_true h, Bool.true_or]
    go_enter Tryz.func60, Tryz.ntmps60
    go_wp2_with fail
    refine c1.mono ?_; rintro r w1 ⟨rfl, hb1⟩
    clear c1
    go_wp2
    go_ret
    exact ⟨rfl, hb1⟩
  · rw [decide_eq_false h, Bool.false_or]
    go_enter Tryz.func60, Tryz.ntmps60
    go_wp2_with fail
    refine c1.mono ?_; rintro r w1 ⟨rfl, hb1⟩
    clear c1
    go_wp2
    go_ret
    exact ⟨by simp; omega, hb1⟩
end Go.Proofs.YthfpmhnnjjikcaaGreatDoor
