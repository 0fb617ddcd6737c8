/- A piece cut in two. The Walker's calls. A piece cut in two; a piece taken. What a Walker takes. What vellumref04.Refuse and Check answer: what an insert is refused with. What vellumref04.copied and vellumref04.Join answer. What vellumref04.Length answers of inserts. What vellumref04.Length, Cells and Newlines answer of inserts. The document's deltas: Same, SameOp, Insert, Len. The document's deltas: Len. vellumhand.Make, Is; vellumlaw06's gone, text, large, lives. vellumlaw06.lives answers true. Canonical lists of operations in order are in order. Next and Rest of a Walker. One step of two Walkers. What Steps' function hands over, for whatever loop body. A fixed delta lives. One round of WalkEach's outer loop, whatever marks are laid. -/
import Derived.Test.YtpmblhofeabppaaGreatDoorMgc
import Derived.Test.YtpmblhofeabppaaGreatDoorCf
import Derived.Test.YtpmblhofeabppaaGreatDoorCp
import Derived.BigRegion
import Derived.Deep.RegionHeld3
import Derived.Deep.DeepCutAuto
import Derived.Test.YtpmblhofeabppaaGreatDoorMgd
import Derived.Test.YtpmblhofeabppaaGreatDoorSw
import Derived.Test.YtpmblhofeabppaaGreatDoorMga
import Derived.Test.YtpmblhofeabppaaGreatDoorQe
import Derived.Test.YtpmblhofeabppaaGreatDoorMge

/- A piece cut in two. -/
namespace Go.Proofs.YtpmblhofeabppaaGreatDoor
open Go Go.RowKit Go.Lib
set_option linter.unusedVariables false

theorem heap_drw7 (W : World) (k : Nat) : W.drew.heap[k]? = W.heap[k]? := rfl
theorem box3 (w : World) (o : Array Value) (T : TypeId) (W : World) (hW : (((w.alloc (.cells o T)).alloc (.cells o T)).alloc (.cells o T)).drew = W) : W.heap[w.heap.size + 1]? = some (.cells o T (0, 0)) ∧ W.heap[w.heap.size + 1 + 1]? = some (.cells o T (0, 0)) ∧ Below (w.heap.size + 1) (w.alloc (.cells o T)) W := by
  subst hW
  have e1 := heap_alloc_new (w.alloc (.cells o T)) (.cells o T)
  have e2 := heap_alloc_new ((w.alloc (.cells o T)).alloc (.cells o T)) (.cells o T)
  simp only [World.size_alloc] at e1 e2
  refine ⟨?_, e2, ?_⟩
  · exact ((Below.refl ((w.alloc (.cells o T)).alloc (.cells o T)).heap.size _).alloc (Nat.le_refl _) _).block (w.heap.size + 1) (by simp) |>.trans e1
  · exact (((Below.refl (w.alloc (.cells o T)).heap.size _).alloc (Nat.le_refl _) _).alloc (by simp) _).drew.mono (by simp)
set_option maxHeartbeats 2000000 in
set_option maxRecDepth 100000 in
theorem cutText_any (p : Option Addr) (l c : Nat) (t : ByteArray) (N : Int) (A : List A2) (rs : List Nat) (m : Nat) (w : World) (hR : RN w (.slice p l c) A) (hl : A.length ≤ 2097152)
    (hv : t.data.toList = encs rs) (hs : ∀ r ∈ rs, scal r) (hm : m ≤ rs.length) (ht : t.size ≤ 8388608) (hrl : rs.length ≤ t.size) (hN : (m : Int) ≤ N) (hN2 : N ≤ 8388608) :
    Calls Tryz.prog 58 #[.agg #[.slice p l c, .string t, .int .i64 N], .int .i64 m] w fun r w' => ∃ p' c', r = .returned (.tuple #[.iface 71 (.agg #[.slice p' A.length c', .string (t.extract 0 (pos rs m)), .int .i64 m]), .iface 71 (.agg #[.slice p l c, .string (t.extract (pos rs m) t.size), .int .i64 (N - m)])]) ∧ OwnA w' w.heap.size (.slice p' A.length c') A ∧ Below w.heap.size w w' := by
  have cP := fun W => placeOf_any t rs m W hv hs hm (by omega) hrl
  have cA := fun W (hW : Below w.heap.size w W) => attributes_any (.slice p l c) A W (hR.below hW).row hR.nz hl
  have hpt : pos rs m ≤ t.size := by have := pos_le rs m; have := size_toList t; rw [hv] at this; omega
  obtain ⟨x, hx⟩ : ∃ x, pos rs m = x := ⟨_, rfl⟩
  rw [hx] at hpt
  simp only [hx] at cP ⊢
  clear hR hl hv hs hx hrl
  go_enter Tryz.func58, Tryz.ntmps58
  go_upto_region 1 with fail
  go_cut [6, 7] (fun x6 x7 wx => ∃ X Y, x6 = .pointer (some ⟨X, 0, none⟩) ∧ x7 = .pointer (some ⟨Y, 0, none⟩) ∧ X ≠ Y ∧ w.heap.size < X ∧ w.heap.size < Y ∧ wx.heap[X]? = some (.cells #[.slice p l c, .string t, .int .i64 N] 71 (0, 0)) ∧ wx.heap[Y]? = some (.cells #[.slice p l c, .string t, .int .i64 N] 71 (0, 0)) ∧ Below (w.heap.size + 1) (w.alloc (.cells #[.slice p l c, .string t, .int .i64 N] 71)) wx)
  case first =>
    go_region
    all_goals (try go_wp2)
    all_goals go_meet
    all_goals obtain ⟨h1, h2, hB⟩ := box3 w _ _ _ rfl
    · exact ⟨_, _, rfl, rfl, by omega, by omega, by omega, h1, h2, hB⟩
    · exact ⟨_, _, rfl, rfl, by omega, by omega, by omega, h2, h1, hB⟩
  case rest =>
    obtain ⟨X, Y, rfl, rfl, nXY, lX, lY, hX, hY, hB⟩ := hcut
    have hb0 : Below w.heap.size w wc := ((Below.refl _ w).alloc (Nat.le_refl _) _).trans (hB.mono (by omega))
    have k0 : wc.heap[w.heap.size]? = some (.cells #[.slice p l c, .string t, .int .i64 N] 71 (0, 0)) := (hB.block _ (by omega)).trans (heap_alloc_new w _)
    have zX := (Array.getElem?_eq_some_iff.1 hX).1
    have zY := (Array.getElem?_eq_some_iff.1 hY).1
    have d1 : wc.cell? ⟨w.heap.size, 1, none⟩ = some (.string t) := by rw [cell_of_heap k0]; rfl
    go_wp2_with fail
    refine (cP _).mono ?_; rintro r w2 ⟨rfl, hb2⟩
    have b2 := hb0.trans (hb2.mono hb0.size)
    have m0 := heap_below hb2 k0
    have mX := heap_below hb2 hX
    have mY := heap_below hb2 hY
    clear d1 k0 hX hY hb0
    have d0 : w2.cell? ⟨w.heap.size, 0, none⟩ = some (.slice p l c) := by rw [cell_of_heap m0]; rfl
    go_wp2_with fail
    refine (cA _ b2).mono ?_; rintro r w3 ⟨v', rfl, own3, hb3⟩
    obtain ⟨p', c', rfl⟩ := own_slice own3
    have b3 := b2.trans (hb3.mono b2.size)
    have q0 := heap_below hb3 m0
    have qX := heap_below hb3 mX
    have qY := heap_below hb3 mY
    have d1 : w3.cell? ⟨w.heap.size, 1, none⟩ = some (.string t) := by rw [cell_of_heap q0]; rfl
    have x0 : w3.cell? ⟨X, 0, none⟩ = some (.slice p l c) := by rw [cell_of_heap qX]; rfl
    have x1 : w3.cell? ⟨X, 1, none⟩ = some (.string t) := by rw [cell_of_heap qX]; rfl
    have x2 : w3.cell? ⟨X, 2, none⟩ = some (.int .i64 N) := by rw [cell_of_heap qX]; rfl
    have y0 : w3.cell? ⟨Y, 0, none⟩ = some (.slice p l c) := by rw [cell_of_heap qY]; rfl
    have y1 : w3.cell? ⟨Y, 1, none⟩ = some (.string t) := by rw [cell_of_heap qY]; rfl
    have y2 : w3.cell? ⟨Y, 2, none⟩ = some (.int .i64 N) := by rw [cell_of_heap qY]; rfl
    have g0 : w3.frozen? ⟨X, 0, none⟩ = false := frozen_of_heap qX 0
    have g1 : w3.frozen? ⟨X, 1, none⟩ = false := frozen_of_heap qX 1
    have g2 : w3.frozen? ⟨X, 2, none⟩ = false := frozen_of_heap qX 2
    have k1 : w3.frozen? ⟨Y, 1, none⟩ = false := frozen_of_heap qY 1
    have k2 : w3.frozen? ⟨Y, 2, none⟩ = false := frozen_of_heap qY 2
    have n1 : ¬ X = w.heap.size := by omega
    have n2 : ¬ w.heap.size = X := by omega
    have n3 : ¬ Y = w.heap.size := by omega
    have n4 : ¬ w.heap.size = Y := by omega
    have n5 : ¬ X = Y := nXY
    have n6 : ¬ Y = X := Ne.symm nXY
    have z1 : w.heap.size ≤ X := by omega
    have z2 : w.heap.size ≤ Y := by omega
    have z3 : w.heap.size ≤ w2.heap.size := b2.size
    have hxt : (x : Int) ≤ t.size := by omega
    have hs3 : Hid (OwnA w3 w.heap.size (.slice p' A.length c') A ∧ (∀ k, (Value.slice p' A.length c').ownBlock = some k → k ≠ X ∧ k ≠ Y)) := ⟨own_weaken own3 z3, fun k hk => by have h1 := (owns_block own3 k hk).1; have := (Array.getElem?_eq_some_iff.1 mX).1; have := (Array.getElem?_eq_some_iff.1 mY).1; omega⟩
    have HB3 : Hid (Below w.heap.size w w3) := b3
    clear q0 qX qY m0 mX mY own3 hb3 b3 b2 hb2 d0 lX lY nXY hB zX zY cP cA
    go_wp2
    go_region
    go_wp2
    go_region
    go_wp2
    go_ret2
    refine ⟨p', c', rfl, ?_, ?_⟩
    · exact owns_same hs3.out.1 (fun k hk => by
        obtain ⟨e1, e2⟩ := hs3.out.2 k hk
        repeat (with_reducible first | (refine (heap_drw7 _ _).trans ?_) | (refine (Below.heap_setCell _ _ _ _ e1).trans ?_) | (refine (Below.heap_setCell _ _ _ _ e2).trans ?_) | rfl))
    · repeat (with_reducible first | exact HB3.out | (refine Below.drew ?_) | (refine Below.setCell ?_ (p := ⟨X, _, none⟩) z1 _) | (refine Below.setCell ?_ (p := ⟨Y, _, none⟩) z2 _))
end Go.Proofs.YtpmblhofeabppaaGreatDoor

/- The Walker's calls. -/
namespace Go.Proofs.YtpmblhofeabppaaGreatDoor
open Go Go.RowKit Go.Lib
set_option linter.unusedVariables false

theorem as_i_e7 (v : Value) (W : World) : (Instr.typeAssert (.iface 71 v) 34 75 true).run Tryz.prog W = .ok (.tuple #[.agg #[.slice none 0 0, .string ⟨#[]⟩, .nilIface], .bool false]) W := by kernel_rfl
/-- What comes next. -/
def top7 : List Op5 → Op5
  | [] => pl7 1099511627776
  | x :: _ => x
theorem top_left (R : List Op5) : len5 (top7 R) = left7 R := by
  cases R with
  | nil => exact (pl_good (by omega) (by omega)).2
  | cons x r => rfl
theorem top_kind (R : List Op5) : (top7 R).k = kind7 R := by cases R <;> rfl
theorem top_good {R : List Op5} (h : ∀ o ∈ R, opE o = 0) : opE (top7 R) = 0 := by
  cases R with
  | nil => exact (pl_good (by omega) (by omega)).1
  | cons x r => exact h x (List.mem_cons_self ..)
theorem pieceQ_pl (n : Int) : pieceQ (pl7 n) (.slice none 0 0) = .iface 77 (.agg #[.slice none 0 0, .int .i64 n]) := pieceQ_3 rfl
set_option maxHeartbeats 2000000 in
set_option maxRecDepth 100000 in
theorem next7_any {B q g : Nat} {R : List Op5} (w : World) (h : WkV w B q g R) :
    Calls Tryz.prog 32 #[.pointer (some ⟨q, 0, none⟩)] w fun r w' => ∃ s, r = .returned (pieceQ (top7 R) s) ∧ OwnA w' B s (top7 R).A ∧ Below w.heap.size w w' := by
  have cD := doneW_any w h
  cases R with
  | nil =>
    rw [decide_eq_true rfl] at cD
    clear h
    go_enter Tryz.func32, Tryz.ntmps32
    go_wp2_with fail
    refine cD.mono ?_; rintro r w2 ⟨rfl, hb2⟩
    clear cD
    go_wp2
    go_ret
    exact ⟨.slice none 0 0, by rw [← pieceQ_pl]; rfl, World.ownsRow_nil _ _ _ _, hb2⟩
  | cons x r =>
    rw [decide_eq_false (List.cons_ne_nil _ _)] at cD
    obtain ⟨off, cap, s, c0, _, hc, c1, _, hs⟩ := h.read1
    have hl : (0 : Int) < ((r.length + 1 : Nat) : Int) := by omega
    obtain ⟨n, hn⟩ : ∃ n, r.length + 1 = n := ⟨_, rfl⟩
    obtain ⟨u, y, hux⟩ := pieceQ_if x s
    have HU : Hid (pieceQ x s = .iface u y) := hux
    rw [hux] at c1
    rw [hn] at c0 hl hc
    clear h hux hn
    go_enter Tryz.func32, Tryz.ntmps32
    go_wp2_with fail
    refine cD.mono ?_; rintro r w2 ⟨rfl, hb2⟩
    have d0 := (hb2.cell (lt_of_cell c0)).trans c0
    have d1 := (hb2.cell (lt_of_cell c1)).trans c1
    have HS : Hid (OwnA w2 B s x.A) := owns_below hs hb2
    clear cD c0 c1 hs
    go_wp2
    go_ret
    exact ⟨s, by rw [show top7 (x :: _) = x from rfl, HU.out]; rfl, HS.out, hb2⟩
set_option maxHeartbeats 2000000 in
set_option maxRecDepth 100000 in
theorem kindOf_any (o : Op5) (p : Option Addr) (l c : Nat) (w : World) (hg : opE o = 0) :
    Calls Tryz.prog 31 #[pieceQ o (.slice p l c)] w fun r w' => r = .returned (.int .i64 o.k) ∧ Below w.heap.size w w' := by
  rcases kinds_of hg with hk | hk | hk | hk
  · rw [pieceQ_1 hk, hk]
    have a0 := as_i_i
    obtain ⟨n, hn⟩ : ∃ n : Int, ((scs o.t.data.toList).length : Int) = n := ⟨_, rfl⟩
    rw [hn]
    clear hg hk hn
    go_enter Tryz.func31, Tryz.ntmps31
    go_wp2
    go_ret
    exact ⟨rfl, Below.refl _ _⟩
  · rw [pieceQ_2 hk, hk]
    have a0 := as_e_i
    have a1 := as_e_e
    obtain ⟨V, hV⟩ : ∃ V, valP o.v = V := ⟨_, rfl⟩
    rw [hV]
    clear hg hk hV
    go_enter Tryz.func31, Tryz.ntmps31
    go_wp2
    go_ret
    exact ⟨rfl, Below.refl _ _⟩
  · rw [pieceQ_3 hk, hk]
    have a0 := as_r_i
    have a1 := as_r_e6
    have a2 := as_r_d
    clear hg hk
    go_enter Tryz.func31, Tryz.ntmps31
    go_wp2
    go_ret
    exact ⟨rfl, Below.refl _ _⟩
  · rw [pieceQ_4 hk, hk]
    have a0 := as_d_i
    have a1 := as_d_e6
    have a2 := as_d_d
    clear hg hk
    go_enter Tryz.func31, Tryz.ntmps31
    go_wp2
    go_ret
    exact ⟨rfl, Below.refl _ _⟩
set_option maxHeartbeats 2000000 in
set_option maxRecDepth 100000 in
theorem inserts_any (o : Op5) (p : Option Addr) (l c : Nat) (w : World) (hg : opE o = 0) :
    Calls Tryz.prog 49 #[pieceQ o (.slice p l c)] w fun r w' => r = .returned (.bool (decide (o.k = 1 ∨ o.k = 2))) ∧ Below w.heap.size w w' := by
  rcases kinds_of hg with hk | hk | hk | hk
  · rw [pieceQ_1 hk, decide_eq_true (Or.inl hk)]
    have a0 := as_i_i
    have a1 := as_i_e7
    obtain ⟨n, hn⟩ : ∃ n : Int, ((scs o.t.data.toList).length : Int) = n := ⟨_, rfl⟩
    rw [hn]
    clear hg hk hn
    go_enter Tryz.func49, Tryz.ntmps49
    go_wp2
    go_ret
    exact ⟨rfl, Below.refl _ _⟩
  · rw [pieceQ_2 hk, decide_eq_true (Or.inr hk)]
    have a0 := as_e_i
    have a1 := as_e_e
    obtain ⟨V, hV⟩ : ∃ V, valP o.v = V := ⟨_, rfl⟩
    rw [hV]
    clear hg hk hV
    go_enter Tryz.func49, Tryz.ntmps49
    go_wp2
    go_ret
    exact ⟨rfl, Below.refl _ _⟩
  · rw [pieceQ_3 hk, decide_eq_false (by omega)]
    have a0 := as_r_i
    have a1 := as_r_e6
    clear hg hk
    go_enter Tryz.func49, Tryz.ntmps49
    go_wp2
    go_ret
    exact ⟨rfl, Below.refl _ _⟩
  · rw [pieceQ_4 hk, decide_eq_false (by omega)]
    have a0 := as_d_i
    have a1 := as_d_e6
    clear hg hk
    go_enter Tryz.func49, Tryz.ntmps49
    go_wp2
    go_ret
    exact ⟨rfl, Below.refl _ _⟩
set_option maxHeartbeats 2000000 in
set_option maxRecDepth 100000 in
theorem kind7_any {B q g : Nat} {R : List Op5} (w : World) (h : WkV w B q g R) (hg : ∀ o ∈ R, opE o = 0) :
    Calls Tryz.prog 14 #[.pointer (some ⟨q, 0, none⟩)] w fun r w' => r = .returned (.int .i64 (kind7 R)) ∧ Below w.heap.size w w' := by
  have cN := next7_any w h
  have cK := fun p l c W => kindOf_any (top7 R) p l c W (top_good hg)
  rw [top_kind] at cK
  have HI := fun s => pieceQ_if (top7 R) s
  obtain ⟨PQ, hPQ⟩ : ∃ f : Value → Value, pieceQ (top7 R) = f := ⟨_, rfl⟩
  rw [hPQ] at cN cK HI
  clear h hg hPQ
  go_enter Tryz.func14, Tryz.ntmps14
  go_wp2_with fail
  refine cN.mono ?_; rintro r w2 ⟨s, rfl, own, hb2⟩
  obtain ⟨p, c, rfl⟩ := own_slice own
  have cK' := cK p (top7 R).A.length c w2
  obtain ⟨u, x, hx⟩ := HI (.slice p (top7 R).A.length c)
  rw [hx] at cK' ⊢
  clear cN cK HI own hx
  go_wp2_with fail
  refine cK'.mono ?_; rintro r w3 ⟨rfl, hb3⟩
  have b3 := hb2.trans (hb3.mono hb2.size)
  go_wp2
  go_ret
  exact ⟨rfl, b3⟩
set_option maxHeartbeats 2000000 in
set_option maxRecDepth 100000 in
theorem left7_any {B q g : Nat} {R : List Op5} (w : World) (h : WkV w B q g R) (hg : ∀ o ∈ R, opE o = 0) :
    Calls Tryz.prog 15 #[.pointer (some ⟨q, 0, none⟩)] w fun r w' => r = .returned (.int .i64 (left7 R)) ∧ Below w.heap.size w w' := by
  have cN := next7_any w h
  have ht := top_good hg
  have hl := top_left R
  obtain ⟨T, hT⟩ : ∃ T, top7 R = T := ⟨_, rfl⟩
  rw [hT] at cN ht hl
  rw [← hl]
  have HI := fun s => pieceQ_if T s
  obtain ⟨PQ, hPQ⟩ : ∃ f : Value → Value, pieceQ T = f := ⟨_, rfl⟩
  have HPQ : Hid (pieceQ T = PQ) := hPQ
  rw [hPQ] at cN HI
  clear h hg hPQ hl hT
  go_enter Tryz.func15, Tryz.ntmps15
  go_wp2_with fail
  refine cN.mono ?_; rintro r w2 ⟨s, rfl, own, hb2⟩
  obtain ⟨u, x, hx⟩ := HI s
  have HX : Hid (pieceQ T s = .iface u x) := by show _ = _; rw [HPQ.out, hx]
  rw [hx]
  clear cN HI own hx
  go_wp2_with (refine wpList_lenP rfl (.tmp 4) rfl T s HX.out.symm ht ?_; intro w3 hb3; have b3 := hb2.trans (hb3.mono hb2.size))
  go_ret
  exact ⟨rfl, b3⟩
end Go.Proofs.YtpmblhofeabppaaGreatDoor

/- A piece cut in two; a piece taken. -/
namespace Go.Proofs.YtpmblhofeabppaaGreatDoor
open Go Go.RowKit Go.Lib
set_option linter.unusedVariables false

set_option maxHeartbeats 2000000 in
set_option maxRecDepth 100000 in
theorem cut71_any {e : Op5} {m : Nat} (p : Option Addr) (l c : Nat) (w : World) (hg : opE e = 0) (hk : e.k = 1) (h1 : 1 ≤ m) (h2 : (m : Int) < len5 e) (ht : e.t.size ≤ 8388608) (hR : RN w (.slice p l c) e.A) (hl : e.A.length ≤ 2097152) :
    Calls Tryz.prog 48 #[pieceQ e (.slice p l c), .int .i64 m] w fun r w' => ∃ s1, r = .returned (.tuple #[pieceQ (hd7 e m) s1, pieceQ (tl7 e m) (.slice p l c)]) ∧ OwnA w' w.heap.size s1 e.A ∧ Below w.heap.size w w' := by
  have hi : Ins e := by
    rcases op_good hg with ⟨hi, _⟩ | ⟨_, _, h⟩ | ⟨_, _, h⟩
    · exact hi
    · omega
    · omega
  obtain ⟨hv1, hv2, hv3⟩ := valid_text e.t hi.utf
  have hlen := len5_1 hk
  rw [hlen] at h2
  have hm : m < (scs e.t.data.toList).length := by omega
  have b0 : Below w.heap.size w (w.alloc (.cells #[.slice p l c, .string e.t, .int .i64 (scs e.t.data.toList).length] 71)) := (Below.refl _ _).alloc (Nat.le_refl _) _
  have cT := cutText_any p l c e.t (scs e.t.data.toList).length e.A (scs e.t.data.toList) m _ (hR.below b0) hl hv2 hv1 (by omega) ht hv3 (by omega) (by omega)
  have q1 : ∀ s1, pieceQ (hd7 e m) s1 = .iface 71 (.agg #[s1, .string (e.t.extract 0 (pos (scs e.t.data.toList) m)), .int .i64 m]) := fun s1 => by
    have e1 : hd7 e m = headO e m := by unfold hd7; rw [if_pos hk]; rfl
    have := (ins_head hi h1 hm).2
    unfold lenO at this
    rw [if_pos (show (headO e m).k = 1 from rfl)] at this
    rw [e1, pieceQ_1 (o := headO e m) rfl, this]; rfl
  have q2 : pieceQ (tl7 e m) (.slice p l c) = .iface 71 (.agg #[.slice p l c, .string (e.t.extract (pos (scs e.t.data.toList) m) e.t.size), .int .i64 (((scs e.t.data.toList).length : Int) - m)]) := by
    have e1 : tl7 e m = tailO e m := by unfold tl7; rw [if_pos hk]; rfl
    have := (ins_tail hi hm).2
    unfold lenO at this
    rw [if_pos (show (tailO e m).k = 1 from rfl)] at this
    rw [e1, pieceQ_1 (o := tailO e m) rfl, this]
    show Value.iface _ (.agg #[_, .string (tailO e m).t, .int .i64 (((scs e.t.data.toList).length - m : Nat) : Int)]) = _
    rw [Int.ofNat_sub (by omega)]; rfl
  rw [q2, pieceQ_1 hk]
  obtain ⟨X, hX⟩ : ∃ X, e.t.extract 0 (pos (scs e.t.data.toList) m) = X := ⟨_, rfl⟩
  obtain ⟨Y, hY⟩ : ∃ X, e.t.extract (pos (scs e.t.data.toList) m) e.t.size = X := ⟨_, rfl⟩
  obtain ⟨n, hn⟩ : ∃ n : Int, ((scs e.t.data.toList).length : Int) = n := ⟨_, rfl⟩
  simp only [hX, hY, hn] at cT q1 b0 ⊢
  have HQ : Hid (∀ s1, pieceQ (hd7 e m) s1 = .iface 71 (.agg #[s1, .string X, .int .i64 m])) := q1
  have a0 := as_i_i
  clear q1 q2 hX hY hn hm h2 hlen hv1 hv2 hv3 hi hg hk ht hR hl
  go_enter Tryz.func48, Tryz.ntmps48
  go_wp2_with fail
  refine cT.mono ?_; rintro r w2 ⟨p', c', rfl, own2, hb2⟩
  have HQ2 : Hid (OwnA w2 w.heap.size (.slice p' e.A.length c') e.A ∧ Below w.heap.size w w2) := ⟨own_weaken own2 b0.size, b0.trans (hb2.mono b0.size)⟩
  clear cT own2 hb2 b0
  go_wp2
  go_ret2
  exact ⟨.slice p' e.A.length c', by rw [HQ.out]; rfl, HQ2.out⟩
set_option maxHeartbeats 2000000 in
set_option maxRecDepth 100000 in
theorem cut73_any {e : Op5} {m : Int} (p : Option Addr) (l c : Nat) (w : World) (hg : opE e = 0) (hk : e.k = 3) (h1 : 1 ≤ m) (h2 : m < e.c) (hR : RN w (.slice p l c) e.A) (hl : e.A.length ≤ 2097152) :
    Calls Tryz.prog 48 #[pieceQ e (.slice p l c), .int .i64 m] w fun r w' => ∃ s1, r = .returned (.tuple #[pieceQ (hd7 e m) s1, pieceQ (tl7 e m) (.slice p l c)]) ∧ OwnA w' w.heap.size s1 e.A ∧ Below w.heap.size w w' := by
  have hc : e.c ≤ 1099511627776 := by
    rcases op_good hg with ⟨_, h⟩ | ⟨hc, _, h⟩ | ⟨_, _, h⟩
    · omega
    · exact hc.hi
    · omega
  have e1 : hd7 e m = ⟨e.k, e.t, e.v, m, e.A⟩ := if_neg (by omega)
  have e2 : tl7 e m = ⟨e.k, e.t, e.v, e.c - m, e.A⟩ := if_neg (by omega)
  have cA := fun W (hW : Below w.heap.size w W) => attributes_any (.slice p l c) e.A W (hR.below hW).row hR.nz hl
  rw [e1, e2]
  simp only [pieceQ_3 hk, pieceQ_3 (o := ⟨e.k, e.t, e.v, m, e.A⟩) hk, pieceQ_3 (o := ⟨e.k, e.t, e.v, e.c - m, e.A⟩) hk]
  obtain ⟨N, hN⟩ : ∃ N, e.c = N := ⟨_, rfl⟩
  rw [hN] at h2 hc ⊢
  have a0 := as_r_i
  have a1 := as_r_r
  clear hR hg hk e1 e2 hN
  go_enter Tryz.func48, Tryz.ntmps48
  go_upto_region 7 with fail
  go_cut [8, 9] (fun x6 x7 wx => ∃ X Y, x6 = .pointer (some ⟨X, 0, none⟩) ∧ x7 = .pointer (some ⟨Y, 0, none⟩) ∧ X ≠ Y ∧ w.heap.size < X ∧ w.heap.size < Y ∧ wx.heap[X]? = some (.cells #[.slice p l c, .int .i64 N] 77 (0, 0)) ∧ wx.heap[Y]? = some (.cells #[.slice p l c, .int .i64 N] 77 (0, 0)) ∧ Below (w.heap.size + 1) (w.alloc (.cells #[.slice p l c, .int .i64 N] 77)) wx)
  case first =>
    go_region
    all_goals (try go_wp2)
    all_goals go_meet
    all_goals obtain ⟨h1, h2, hB⟩ := box3 w _ _ _ rfl
    · exact ⟨_, _, rfl, rfl, by omega, by omega, by omega, h1, h2, hB⟩
    · exact ⟨_, _, rfl, rfl, by omega, by omega, by omega, h2, h1, hB⟩
  case rest =>
    obtain ⟨X, Y, rfl, rfl, nXY, lX, lY, hX, hY, hB⟩ := hcut
    have hb0 : Below w.heap.size w wc := ((Below.refl _ w).alloc (Nat.le_refl _) _).trans (hB.mono (by omega))
    have k0 : wc.heap[w.heap.size]? = some (.cells #[.slice p l c, .int .i64 N] 77 (0, 0)) := (hB.block _ (by omega)).trans (heap_alloc_new w _)
    have zX := (Array.getElem?_eq_some_iff.1 hX).1
    have zY := (Array.getElem?_eq_some_iff.1 hY).1
    have d0 : wc.cell? ⟨w.heap.size, 0, none⟩ = some (.slice p l c) := by rw [cell_of_heap k0]; rfl
    go_wp2_with fail
    refine (cA _ hb0).mono ?_; rintro r w3 ⟨v', rfl, own3, hb3⟩
    obtain ⟨p', c', rfl⟩ := own_slice own3
    have b3 := hb0.trans (hb3.mono hb0.size)
    have q0 := heap_below hb3 k0
    have qX := heap_below hb3 hX
    have qY := heap_below hb3 hY
    have x0 : w3.cell? ⟨X, 0, none⟩ = some (.slice p l c) := by rw [cell_of_heap qX]; rfl
    have x1 : w3.cell? ⟨X, 1, none⟩ = some (.int .i64 N) := by rw [cell_of_heap qX]; rfl
    have y0 : w3.cell? ⟨Y, 0, none⟩ = some (.slice p l c) := by rw [cell_of_heap qY]; rfl
    have y1 : w3.cell? ⟨Y, 1, none⟩ = some (.int .i64 N) := by rw [cell_of_heap qY]; rfl
    have g0 : w3.frozen? ⟨X, 0, none⟩ = false := frozen_of_heap qX 0
    have g1 : w3.frozen? ⟨X, 1, none⟩ = false := frozen_of_heap qX 1
    have k1 : w3.frozen? ⟨Y, 1, none⟩ = false := frozen_of_heap qY 1
    have n5 : ¬ X = Y := nXY
    have n6 : ¬ Y = X := Ne.symm nXY
    have z1 : w.heap.size ≤ X := by omega
    have z2 : w.heap.size ≤ Y := by omega
    have z3 : w.heap.size ≤ wc.heap.size := hb0.size
    have hs3 : Hid (OwnA w3 w.heap.size (.slice p' e.A.length c') e.A ∧ (∀ k, (Value.slice p' e.A.length c').ownBlock = some k → k ≠ X ∧ k ≠ Y)) := ⟨own_weaken own3 z3, fun k hk => by have h1 := (owns_block own3 k hk).1; omega⟩
    have HB3 : Hid (Below w.heap.size w w3) := b3
    clear q0 qX qY hX hY own3 hb3 b3 hb0 d0 k0 lX lY nXY hB zX zY cA
    go_wp2
    go_region
    go_wp2
    go_ret2
    refine ⟨_, rfl, ?_, ?_⟩
    · exact owns_same hs3.out.1 (fun k hk => by
        obtain ⟨e1, e2⟩ := hs3.out.2 k hk
        repeat (with_reducible first | (refine (heap_drw7 _ _).trans ?_) | (refine (Below.heap_setCell _ _ _ _ e1).trans ?_) | (refine (Below.heap_setCell _ _ _ _ e2).trans ?_) | rfl))
    · repeat (with_reducible first | exact HB3.out | (refine Below.drew ?_) | (refine Below.setCell ?_ (p := ⟨X, _, none⟩) z1 _) | (refine Below.setCell ?_ (p := ⟨Y, _, none⟩) z2 _))
set_option maxHeartbeats 2000000 in
set_option maxRecDepth 100000 in
theorem cut74_any {e : Op5} {m : Int} (s : Value) (w : World) (hg : opE e = 0) (hk : e.k = 4) (h1 : 1 ≤ m) (h2 : m < e.c) :
    Calls Tryz.prog 48 #[pieceQ e s, .int .i64 m] w fun r w' => ∃ s1, r = .returned (.tuple #[pieceQ (hd7 e m) s1, pieceQ (tl7 e m) s]) ∧ OwnA w' w.heap.size s1 e.A ∧ Below w.heap.size w w' := by
  have hh : e.c ≤ 1099511627776 ∧ e.A = [] := by
    rcases op_good hg with ⟨_, h⟩ | ⟨hc, _, h⟩ | ⟨hc, hA, h⟩
    · omega
    · omega
    · exact ⟨hc.hi, hA⟩
  obtain ⟨hc, hA⟩ := hh
  have e1 : hd7 e m = ⟨e.k, e.t, e.v, m, e.A⟩ := if_neg (by omega)
  have e2 : tl7 e m = ⟨e.k, e.t, e.v, e.c - m, e.A⟩ := if_neg (by omega)
  rw [e1, e2, hA]
  simp only [pieceQ_4 hk, pieceQ_4 (o := ⟨e.k, e.t, e.v, m, []⟩) hk, pieceQ_4 (o := ⟨e.k, e.t, e.v, e.c - m, []⟩) hk]
  obtain ⟨N, hN⟩ : ∃ N, e.c = N := ⟨_, rfl⟩
  rw [hN] at h2 hc ⊢
  have a0 := as_d_i
  have a1 := as_d_r
  have a2 := as_d_d
  clear hg hk e1 e2 hN hA
  go_enter Tryz.func48, Tryz.ntmps48
  go_wp2
  go_region
  go_wp2
  go_ret2
  exact ⟨.slice none 0 0, rfl, World.ownsRow_nil _ _ _ _, ((Below.refl _ _).alloc (Nat.le_refl _) _).drew⟩
theorem cut7_any {e : Op5} {m : Int} (p : Option Addr) (l c : Nat) (w : World) (hg : opE e = 0) (h1 : 1 ≤ m) (h2 : m < len5 e) (ht : e.t.size ≤ 8388608) (hR : RN w (.slice p l c) e.A) (hl : e.A.length ≤ 2097152) :
    Calls Tryz.prog 48 #[pieceQ e (.slice p l c), .int .i64 m] w fun r w' => ∃ s1, r = .returned (.tuple #[pieceQ (hd7 e m) s1, pieceQ (tl7 e m) (.slice p l c)]) ∧ OwnA w' w.heap.size s1 e.A ∧ Below w.heap.size w w' := by
  rcases kinds_of hg with hk | hk | hk | hk
  · obtain ⟨n, rfl⟩ : ∃ n : Nat, m = n := ⟨m.toNat, by omega⟩
    exact cut71_any p l c w hg hk (by omega) h2 ht hR hl
  · rw [len5_2 hk] at h2; omega
  · exact cut73_any p l c w hg hk h1 (by rwa [len5_3 (.inl hk)] at h2) hR hl
  · exact cut74_any _ w hg hk h1 (by rwa [len5_3 (.inr hk)] at h2)
end Go.Proofs.YtpmblhofeabppaaGreatDoor

/- What a Walker takes. -/
namespace Go.Proofs.YtpmblhofeabppaaGreatDoor
open Go Go.RowKit Go.Lib
set_option linter.unusedVariables false

theorem rn_own {w : World} {B : Nat} {s : Value} {A : List A2} (h : OwnA w B s A) : RN w s A := own_RN h
set_option maxHeartbeats 4000000 in
set_option maxRecDepth 100000 in
theorem takeNil_any {B q g : Nat} (n : Int) (w : World) (h : WkV w B q g []) (hn : 1 ≤ n ∧ n ≤ 9223372036854775807) :
    Calls Tryz.prog 33 #[.pointer (some ⟨q, 0, none⟩), .int .i64 n] w fun r w' => ∃ s, r = .returned (pieceQ (nx7 [] n).1 s) ∧ OwnA w' B s (nx7 [] n).1.A ∧ WkV w' B q g (nx7 [] n).2 ∧ FrW q g w w' := by
  have cD := doneW_any w h
  rw [decide_eq_true rfl] at cD
  have HW : Hid (∀ W, Below w.heap.size w W → WkV W B q g []) := fun W hW => h.below hW
  have hq : ∀ s, pieceQ (nx7 [] n).1 s = .iface 77 (.agg #[s, .int .i64 (min n 1099511627776)]) := fun s => pieceQ_3 rfl
  have HQ : Hid _ := hq
  obtain ⟨hn1, hn2⟩ := hn
  clear h hq
  by_cases hm : n ≤ 1099511627776
  · have hmin : Hid (min n 1099511627776 = n) := by show _ = _; omega
    go_enter Tryz.func33, Tryz.ntmps33
    go_wp2_with fail
    refine cD.mono ?_; rintro r w2 ⟨rfl, hb2⟩
    clear cD
    go_wp2
    go_ret
    exact ⟨.slice none 0 0, by rw [HQ.out, hmin.out]; rfl, World.ownsRow_nil _ _ _ _, HW.out _ hb2, FrW.of_below hb2⟩
  · have hmin : Hid (min n 1099511627776 = 1099511627776) := by show _ = _; omega
    go_enter Tryz.func33, Tryz.ntmps33
    go_wp2_with fail
    refine cD.mono ?_; rintro r w2 ⟨rfl, hb2⟩
    clear cD
    go_wp2
    go_ret
    exact ⟨.slice none 0 0, by rw [HQ.out, hmin.out]; rfl, World.ownsRow_nil _ _ _ _, HW.out _ hb2, FrW.of_below hb2⟩
set_option maxHeartbeats 4000000 in
set_option maxRecDepth 100000 in
theorem takeAll_any {B q g : Nat} {x : Op5} {r : List Op5} (n : Int) (w : World) (h : WkV w B q g (x :: r)) (hg : opE x = 0) (hn : len5 x ≤ n) (hr : r.length ≤ 8388608) :
    Calls Tryz.prog 33 #[.pointer (some ⟨q, 0, none⟩), .int .i64 n] w fun e w' => ∃ s, e = .returned (pieceQ (nx7 (x :: r) n).1 s) ∧ OwnA w' B s (nx7 (x :: r) n).1.A ∧ WkV w' B q g (nx7 (x :: r) n).2 ∧ FrW q g w w' := by
  rw [nx_all hn]
  have cD := doneW_any w h
  rw [decide_eq_false (List.cons_ne_nil _ _)] at cD
  obtain ⟨off, cap, s, c0, f0, hc, c1, f1, hs⟩ := h.read1
  have hl : (0 : Int) < ((r.length + 1 : Nat) : Int) := by omega
  obtain ⟨m, hm⟩ : ∃ m, r.length = m := ⟨_, rfl⟩
  obtain ⟨u, y, hux⟩ := pieceQ_if x s
  have HU : Hid (pieceQ x s = .iface u y) := hux
  have HM : Hid (r.length = m) := hm
  have HC : Hid (w.cell? ⟨q, 0, none⟩ = some (.slice (some ⟨g, off, none⟩) (r.length + 1) cap) ∧ OwnA w B s x.A ∧ WkV w B q g (x :: r)) := ⟨c0, hs, h⟩
  have hnn : Hid (len5 x ≤ n) := hn
  rw [hux] at c1
  rw [hm] at c0 hl hc hr
  obtain ⟨L, hL⟩ : ∃ L, len5 x = L := ⟨_, rfl⟩
  have HL : Hid (len5 x = L) := hL
  rw [hL] at hn
  have hge : L ≤ n := hn
  have hne : q ≠ g := h.ne
  have hne2 : g ≠ q := Ne.symm hne
  clear h hux hm hs hn hL
  go_enter Tryz.func33, Tryz.ntmps33
  go_wp2_with fail
  refine cD.mono ?_; rintro r' w2 ⟨rfl, hb2⟩
  have d0 := (hb2.cell (lt_of_cell c0)).trans c0
  have d1 := (hb2.cell (lt_of_cell c1)).trans c1
  have e0 := (hb2.frozen (lt_of_cell c0)).trans f0
  have HB2 : Hid (Below w.heap.size w w2) := hb2
  clear cD c0 c1 f0 f1 hb2
  go_wp2_with (refine wpList_lenP rfl (.tmp 21) rfl x s HU.out.symm hg ?_; rw [HL.out]; intro w3 hb3; have d0' := (hb3.cell (lt_of_cell d0)).trans d0; have e0' := (hb3.frozen (lt_of_cell d0)).trans e0; clear d0 e0)
  all_goals
    have H3 : WkV w3 B q g (x :: r) := (HC.out.2.2.below HB2.out).below hb3
    have C3 : w3.cell? ⟨q, 0, none⟩ = some (.slice (some ⟨g, off, none⟩) (r.length + 1) cap) := by rw [HM.out]; exact d0'
    have O3 : OwnA w3 B s x.A := owns_below (owns_below HC.out.2.1 HB2.out) hb3
    have F3 : FrW q g w w3 := (FrW.of_below HB2.out).trans (FrW.of_below hb3)
  · have hr0 : r = [] := List.eq_nil_of_length_eq_zero (by have := HM.out; omega)
    have hm0 : m = 0 := by omega
    subst hr0
    obtain ⟨a1, a2⟩ := H3.drop (p' := some ⟨g, off, none⟩) (c' := 0) C3 (Nat.zero_le _) (fun h => absurd rfl h)
    subst hm0
    go_ret
    exact ⟨s, by rw [HU.out]; rfl, keepA_own O3 a2.keepA, a1, F3.trans a2⟩
  · obtain ⟨a1, a2⟩ := H3.drop (p' := some ⟨g, off + 1, none⟩) (c' := cap - 1) C3 (by rw [HM.out]; omega) (fun _ => rfl)
    rw [HM.out] at a1 a2
    go_ret
    exact ⟨s, by rw [HU.out]; rfl, keepA_own O3 a2.keepA, a1, F3.trans a2⟩
set_option maxHeartbeats 4000000 in
set_option maxRecDepth 100000 in
theorem takePart_any {B q g : Nat} {x : Op5} {r : List Op5} (n : Int) (w : World) (h : WkV w B q g (x :: r)) (hg : opE x = 0) (h1 : 1 ≤ n) (hn : ¬ len5 x ≤ n) (ht : x.t.size ≤ 8388608) (hA : x.A.length ≤ 2097152) :
    Calls Tryz.prog 33 #[.pointer (some ⟨q, 0, none⟩), .int .i64 n] w fun e w' => ∃ s, e = .returned (pieceQ (nx7 (x :: r) n).1 s) ∧ OwnA w' B s (nx7 (x :: r) n).1.A ∧ WkV w' B q g (nx7 (x :: r) n).2 ∧ FrW q g w w' := by
  rw [nx_part hn]
  have cx := cut7 hg h1 (by omega)
  have cD := doneW_any w h
  rw [decide_eq_false (List.cons_ne_nil _ _)] at cD
  obtain ⟨off, cap, s, c0, f0, hc, c1, f1, hs⟩ := h.read1
  obtain ⟨ps, cs, rfl⟩ := own_slice hs
  have cC := fun W (hW : Below w.heap.size w W) => cut7_any ps x.A.length cs W hg h1 (by omega) ht (own_RN (owns_below hs hW)) hA
  have hl : (0 : Int) < ((r.length + 1 : Nat) : Int) := by omega
  obtain ⟨m, hm⟩ : ∃ m, r.length = m := ⟨_, rfl⟩
  have HM : Hid (r.length = m) := hm
  obtain ⟨u, y, hux⟩ := pieceQ_if x (.slice ps x.A.length cs)
  have HU : Hid (pieceQ x (.slice ps x.A.length cs) = .iface u y) := hux
  obtain ⟨ut, yt, hut⟩ := pieceQ_if (tl7 x n) (.slice ps x.A.length cs)
  have HT : Hid (pieceQ (tl7 x n) (.slice ps x.A.length cs) = .iface ut yt) := hut
  have HX : Hid ((hd7 x n).A = x.A ∧ (tl7 x n).A = x.A) := ⟨cx.hA, cx.tA⟩
  have HC : Hid (w.cell? ⟨q, 0, none⟩ = some (.slice (some ⟨g, off, none⟩) (r.length + 1) cap) ∧ OwnA w B (.slice ps x.A.length cs) x.A ∧ WkV w B q g (x :: r)) := ⟨c0, hs, h⟩
  rw [hux] at c1
  simp only [hux, hut] at cC
  rw [hm] at c0 hl hc
  obtain ⟨L, hL⟩ : ∃ L, len5 x = L := ⟨_, rfl⟩
  have HL : Hid (len5 x = L) := hL
  rw [hL] at hn
  have hge : ¬ L ≤ n := hn
  have hne : q ≠ g := h.ne
  have hne2 : g ≠ q := Ne.symm hne
  have hB : B ≤ w.heap.size := by have := h.lq; have := h.lt; omega
  clear h hux hm hs hn hL hut cx
  go_enter Tryz.func33, Tryz.ntmps33
  go_wp2_with fail
  refine cD.mono ?_; rintro r' w2 ⟨rfl, hb2⟩
  have d0 := (hb2.cell (lt_of_cell c0)).trans c0
  have d1 := (hb2.cell (lt_of_cell c1)).trans c1
  have e1 := (hb2.frozen (lt_of_cell c1)).trans f1
  have HB2 : Hid (Below w.heap.size w w2) := hb2
  clear cD c0 c1 f0 f1 hb2
  go_wp2_with (refine wpList_lenP rfl (.tmp 21) rfl x (.slice ps x.A.length cs) HU.out.symm hg ?_; rw [HL.out]; intro w3 hb3; have d0' := (hb3.cell (lt_of_cell d0)).trans d0; have d1' := (hb3.cell (lt_of_cell d1)).trans d1; have e1' := (hb3.frozen (lt_of_cell d1)).trans e1; have b3 := HB2.out.trans (hb3.mono HB2.out.size); clear d0 d1 e1 hb3)
  refine (cC _ b3).mono ?_; rintro r' w4 ⟨s1, rfl, own4, hb4⟩
  obtain ⟨uh, yh, huh⟩ := pieceQ_if (hd7 x n) s1
  have HH : Hid (pieceQ (hd7 x n) s1 = .iface uh yh) := huh
  rw [huh]
  have d0 := (hb4.cell (lt_of_cell d0')).trans d0'
  have d1 := (hb4.cell (lt_of_cell d1')).trans d1'
  have e1 := (hb4.frozen (lt_of_cell d1')).trans e1'
  have b4 := b3.trans (hb4.mono b3.size)
  have H4 : Hid (WkV w4 B q g (x :: r) ∧ OwnA w4 B (.slice ps x.A.length cs) x.A ∧ OwnA w4 B s1 x.A ∧ FrW q g w w4) := ⟨HC.out.2.2.below b4, owns_below HC.out.2.1 b4, own_weaken own4 (Nat.le_trans hB b3.size), FrW.of_below b4⟩
  clear cC huh own4 hb4 b3 b4 d0' d1' e1' hB
  go_wp2
  have C4 : w4.cell? ⟨q, 0, none⟩ = some (.slice (some ⟨g, off, none⟩) (r.length + 1) cap) := by rw [HM.out]; exact d0
  go_ret
  obtain ⟨g1, g2, g3, g4⟩ := H4.out
  obtain ⟨a1, a2⟩ := g1.put (x' := tl7 x n) (s' := .slice ps x.A.length cs) C4 (by rw [HX.out.2]; exact g2)
  rw [HT.out] at a1 a2
  exact ⟨s1, by rw [HH.out]; rfl, by rw [HX.out.1]; exact keepA_own g3 a2.keepA, a1, g4.trans a2⟩
theorem take_any {B q g : Nat} {R : List Op5} {N T K : Nat} (n : Int) (w : World) (h : WkV w B q g R) (hR : Rst R N T K) (hT : T ≤ 8388608) (hK : K ≤ 2097152) (hN : N ≤ 8388608) (hn : 1 ≤ n ∧ n ≤ 9223372036854775807) :
    Calls Tryz.prog 33 #[.pointer (some ⟨q, 0, none⟩), .int .i64 n] w fun e w' => ∃ s, e = .returned (pieceQ (nx7 R n).1 s) ∧ OwnA w' B s (nx7 R n).1.A ∧ WkV w' B q g (nx7 R n).2 ∧ FrW q g w w' := by
  cases R with
  | nil => exact takeNil_any n w h hn
  | cons x r =>
    have hx := hR.good x (List.mem_cons_self ..)
    by_cases hl : len5 x ≤ n
    · exact takeAll_any n w h hx hl (by have := hR.len; simp at this; omega)
    · exact takePart_any n w h hx hn.1 hl (Nat.le_trans (hR.size x (List.mem_cons_self ..)) hT) (Nat.le_trans (hR.attr x (List.mem_cons_self ..)) hK)
end Go.Proofs.YtpmblhofeabppaaGreatDoor

/- What vellumref04.Refuse and Check answer: what an insert is refused with. -/
namespace Go.Proofs.YtpmblhofeabppaaGreatDoor
open Go Go.RowKit Go.Lib
set_option linter.unusedVariables false

theorem Fit.tiny {o : Op5} (h : Fit o) : Tiny o.A := h.A

set_option maxHeartbeats 2000000 in
theorem ref_ins {I : List Nat} {a : Nat → Addr} (o : Op5) (s : Value) (w : World) (hS : Std I a w) (hR : RN w s o.A) (hF : Fit o) :
    Calls Tryz.prog 51 #[opV o s] w fun r w' => r = .returned (.int .i64 (insE o)) ∧ Below w.heap.size w w' := by
  have b0 := (Below.refl w.heap.size w).alloc (Nat.le_refl _) (.cells (opC o s) 40)
  have D0 := BoxO.new w o s
  have cU : Hid (∀ b, decide (brk o.t.data.toList = o.t.size) = b → ∀ W, Calls Tryz.prog 59 #[.string o.t] W fun r w' => r = .returned (.bool b) ∧ Below W.heap.size W w') := fun b hb W => ref_utf8 o.t W (by have := hF.t; omega) b hb
  have cV : Hid (∀ W, Calls Tryz.prog 60 #[pl o.v.1 o.v.2.1 o.v.2.2] W fun r w' => r = .returned (.int .i64 (chkP o.v)) ∧ Below W.heap.size W w') := fun W => ref_chk _ _ _ W (by have := hF.v; omega)
  have cA : Hid (∀ W, Below w.heap.size w W → Calls Tryz.prog 52 #[s, .bool false] W fun r w' => r = .returned (.int .i64 (listE false none o.A)) ∧ Below W.heap.size W w') := fun W hW => ref_check s o.A false W (hS.below hW) (hR.row.below hW) hF.tiny (by have := hF.n; omega)
  obtain ⟨E, hE⟩ : ∃ E, insE o = E := ⟨_, rfl⟩
  rw [hE]
  obtain ⟨V, hV⟩ : ∃ V, chkP o.v = V := ⟨_, rfl⟩
  obtain ⟨L, hL⟩ : ∃ L, listE false none o.A = L := ⟨_, rfl⟩
  rw [hV] at cV
  rw [hL] at cA
  have hE' : E = if fldE o ≠ 0 then fldE o else if brk o.t.data.toList ≠ o.t.size then 1 else if V ≠ 0 then V else L := by rw [← hE, ← hV, ← hL]; rfl
  have hz : o.v = z0 → V = 0 := fun h => by rw [← hV, h]; exact chk_z0
  obtain ⟨U, hU⟩ : ∃ U, decide (brk o.t.data.toList = o.t.size) = U := ⟨_, rfl⟩
  have hU' : (brk o.t.data.toList ≠ o.t.size) = (U = false) := by rw [← hU]; simp
  simp only [hU'] at hE'
  have cU : Hid (∀ W, Calls Tryz.prog 59 #[.string o.t] W fun r w' => r = .returned (.bool U) ∧ Below W.heap.size W w') := cU.out U hU
  clear hE hV hL hU hU' hF hS hR
  have HD : Hid (BoxO (w.alloc (.cells (opC o s) 40)) w.heap.size o s) := D0
  have HA : Hid (∀ W, Below (w.alloc (.cells (opC o s) 40)).heap.size (w.alloc (.cells (opC o s) 40)) W → Calls Tryz.prog 52 #[s, .bool false] W fun r w' => r = .returned (.int .i64 L) ∧ Below W.heap.size W w') := fun W hW => cA.out W (b0.trans (hW.mono b0.size))
  clear cA
  obtain ⟨k, t, ⟨x, n, u⟩, c, A⟩ := o
  obtain ⟨d0, d1, d2, d3, d4, d5, d6⟩ := D0
  simp only at d0 d1 d2 d3 d4 d5 d6 cU cV hz
  simp only [opC] at b0 d0 d1 d2 d3 d4 d5 d6 HD HA
  have gd := fun op x' y' w => guard_pl op x' y' (x, n, u) (0, 0, ⟨#[]⟩) w
  unfold fldE at hE'
  simp only at hE'
  have fin : ∀ w2, Below (w.alloc (.cells #[.int .i64 k, .string t, .int .i64 x, .int .i64 n, .string u, .int .i64 c, s] 40)).heap.size (w.alloc (.cells #[.int .i64 k, .string t, .int .i64 x, .int .i64 n, .string u, .int .i64 c, s] 40)) w2 → Below w.heap.size w w2 := fun w2 h => b0.trans (h.mono b0.size)
  by_cases k1 : k = 1
  · subst k1
    by_cases c0 : c = 0
    · subst c0
      cases he : t.toList.isEmpty with
      | true =>
        have hE2 : E = 9 := by rw [hE']; simp [he]
        subst hE2
        clear gd cU cV HA hz hE' HD fin
        go_enter Tryz.func51, Tryz.ntmps51
        go_wp2
        go_ret
        exact ⟨rfl, b0⟩
      | false =>
        by_cases hz0 : (x, n, u) = z0
        · have hne := neq_pl (x, n, u) (0, 0, ⟨#[]⟩) false (by rw [hz0]; show (!samP z0 z0) = false; rw [samP_self]; rfl)
          have hV0 := hz hz0
          cases U with
          | false =>
            have hE2 : E = 1 := by rw [hE']; simp [he, hz0]
            subst hE2
            clear hz hz0 hV0 cV HA hE' HD
            go_enter Tryz.func51, Tryz.ntmps51
            go_wp2_with fail
            refine (cU.out _).mono ?_; rintro r w2 ⟨rfl, h2⟩
            have b2 := fin _ h2
            go_wp2
            go_ret
            exact ⟨rfl, b2⟩
          | true =>
            have hE2 : E = L := by rw [hE', hV0]; simp [he, hz0]
            subst hE2
            clear hz hz0 hV0 cV hE'
            go_enter Tryz.func51, Tryz.ntmps51
            go_wp2_with fail
            refine (cU.out _).mono ?_; rintro r w2 ⟨rfl, h2⟩
            obtain ⟨p0, p1, p2, p3, p4, p5, p6⟩ := HD.out.below h2
            simp only at p0 p1 p2 p3 p4 p5 p6
            have c2 := HA.out _ h2
            have b2 := fin _ h2
            clear d0 d1 d2 d3 d4 d5 d6 h2
            go_wp2_with fail
            refine c2.mono ?_; rintro r w3 ⟨rfl, h3⟩
            go_wp2
            go_ret
            exact ⟨rfl, b2.trans (h3.mono b2.size)⟩
        · have hne := neq_pl (x, n, u) (0, 0, ⟨#[]⟩) true (by show (!samP (x, n, u) z0) = true; rw [samP_ne hz0]; rfl)
          have hE2 : E = 9 := by rw [hE']; simp [he, hz0]
          subst hE2
          clear hz hz0 cV cU HA hE' HD fin
          go_enter Tryz.func51, Tryz.ntmps51
          go_wp2
          go_ret
          exact ⟨rfl, b0⟩
    · have hc : (c == 0) = false := by simpa using c0
      have hE2 : E = 9 := by rw [hE']; simp [c0]
      subst hE2
      clear hz cV cU HA hE' HD fin c0
      go_enter Tryz.func51, Tryz.ntmps51
      go_wp2
      go_ret
      exact ⟨rfl, b0⟩
  · have hk1 : (k != 1) = true := by simpa using k1
    by_cases k2 : k = 2
    · subst k2
      clear hk1 k1
      by_cases c0 : c = 0
      · subst c0
        cases he : t.toList.isEmpty with
        | true =>
          have hE2 : E = 6 := by rw [hE']; simp [he]
          subst hE2
          clear gd cU cV HA hz hE' HD fin
          go_enter Tryz.func51, Tryz.ntmps51
          go_wp2
          go_ret
          exact ⟨rfl, b0⟩
        | false =>
          by_cases h64 : 64 < t.size
          · have h64I : (64 : Int) < (t.size : Int) := by omega
            have hE2 : E = 6 := by rw [hE']; simp [he, h64]
            subst hE2
            clear gd cU cV HA hz hE' HD fin
            go_enter Tryz.func51, Tryz.ntmps51
            go_wp2
            go_ret
            exact ⟨rfl, b0⟩
          · have h64I : ¬ (64 : Int) < (t.size : Int) := by omega
            cases U with
            | false =>
              have hE2 : E = 1 := by rw [hE']; simp [he, h64]
              subst hE2
              clear hz cV HA hE' HD gd
              go_enter Tryz.func51, Tryz.ntmps51
              go_wp2_with fail
              refine (cU.out _).mono ?_; rintro r w2 ⟨rfl, h2⟩
              have b2 := fin _ h2
              go_wp2
              go_ret
              exact ⟨rfl, b2⟩
            | true =>
              by_cases hV : V = 0
              · have hE2 : E = L := by rw [hE']; simp [he, h64, hV]
                subst hE2
                subst hV
                clear hz hE' gd
                go_enter Tryz.func51, Tryz.ntmps51
                go_wp2_with fail
                refine (cU.out _).mono ?_; rintro r w2 ⟨rfl, h2⟩
                obtain ⟨p0, p1, p2, p3, p4, p5, p6⟩ := HD.out.below h2
                simp only at p0 p1 p2 p3 p4 p5 p6
                clear d0 d1 d2 d3 d4 d5 d6
                go_wp2_with fail
                refine (cV.out _).mono ?_; rintro r w3 ⟨rfl, h3⟩
                have h23 := h2.trans (h3.mono h2.size)
                obtain ⟨q0, q1, q2, q3, q4, q5, q6⟩ := HD.out.below h23
                simp only at q0 q1 q2 q3 q4 q5 q6
                have c2 := HA.out _ h23
                have b3 := fin _ h23
                clear p0 p1 p2 p3 p4 p5 p6 h2 h3 h23
                go_wp2_with fail
                refine c2.mono ?_; rintro r w4 ⟨rfl, h4⟩
                go_wp2
                go_ret
                exact ⟨rfl, b3.trans (h4.mono b3.size)⟩
              · have hE2 : E = V := by rw [hE']; simp [he, h64, hV]
                subst hE2
                have hVI : ((E : Int) == 0) = false := by simp; omega
                clear hz hE' gd HA
                go_enter Tryz.func51, Tryz.ntmps51
                go_wp2_with fail
                refine (cU.out _).mono ?_; rintro r w2 ⟨rfl, h2⟩
                obtain ⟨p0, p1, p2, p3, p4, p5, p6⟩ := HD.out.below h2
                simp only at p0 p1 p2 p3 p4 p5 p6
                clear d0 d1 d2 d3 d4 d5 d6
                go_wp2_with fail
                refine (cV.out _).mono ?_; rintro r w3 ⟨rfl, h3⟩
                have b3 := fin _ (h2.trans (h3.mono h2.size))
                go_wp2
                go_ret
                exact ⟨rfl, b3⟩
      · have hc : (c == 0) = false := by simpa using c0
        have hE2 : E = 9 := by rw [hE']; simp [c0]
        subst hE2
        clear hz cV cU HA hE' HD fin c0 gd
        go_enter Tryz.func51, Tryz.ntmps51
        go_wp2
        go_ret
        exact ⟨rfl, b0⟩
    · have hk2 : (k != 2) = true := by simpa using k2
      have hE2 : E = 5 := by rw [hE']; simp [k1, k2]
      subst hE2
      clear hz cV cU HA hE' HD fin gd k1 k2
      go_enter Tryz.func51, Tryz.ntmps51
      go_wp2
      go_ret
      exact ⟨rfl, b0⟩
end Go.Proofs.YtpmblhofeabppaaGreatDoor

/- What vellumref04.copied and vellumref04.Join answer. -/
namespace Go.Proofs.YtpmblhofeabppaaGreatDoor
open Go Go.RowKit Go.Lib
set_option linter.unusedVariables false
end Go.Proofs.YtpmblhofeabppaaGreatDoor

/- What vellumref04.Length answers of inserts. -/
namespace Go.Proofs.YtpmblhofeabppaaGreatDoor
open Go Go.RowKit Go.Lib
set_option linter.unusedVariables false
end Go.Proofs.YtpmblhofeabppaaGreatDoor

/- What vellumref04.Length, Cells and Newlines answer of inserts. -/
namespace Go.Proofs.YtpmblhofeabppaaGreatDoor
open Go Go.RowKit Go.Lib
set_option linter.unusedVariables false

theorem ub10 (z : Int) (h : 128 ≤ z) (h1 : z < 256) : ¬ z.toNat.toUInt8 = 10 := fun e => by
  have := congrArg UInt8.toNat e
  rw [u8_nat z (by omega) h1] at this
  simp at this
  omega
theorem count_enc {r : Nat} (h : scal r) : (enc r).count 10 = if r = 10 then 1 else 0 := by
  have h' := h
  unfold scal at h'
  by_cases h1 : r < 128
  · rw [enc_one h1]
    by_cases h0 : r = 10
    · subst h0; rfl
    · rw [if_neg h0, List.count_eq_zero]
      intro hm
      have e := congrArg UInt8.toNat (List.mem_singleton.1 hm)
      rw [u8_nat _ (by omega) (by omega)] at e
      simp at e
      omega
  · rw [if_neg (by omega), List.count_eq_zero]
    intro hm
    by_cases h2 : r < 2048
    · rw [enc_two (by omega) h2] at hm
      simp only [List.mem_cons, List.not_mem_nil, or_false] at hm
      rcases hm with e | e <;> exact ub10 _ (by omega) (by omega) e.symm
    by_cases h3 : r < 65536
    · rw [enc_three (by omega) h3 h] at hm
      simp only [List.mem_cons, List.not_mem_nil, or_false] at hm
      rcases hm with e | e | e <;> exact ub10 _ (by omega) (by omega) e.symm
    · rw [enc_four (by omega) (by omega)] at hm
      simp only [List.mem_cons, List.not_mem_nil, or_false] at hm
      rcases hm with e | e | e | e <;> exact ub10 _ (by omega) (by omega) e.symm
theorem count_encs : ∀ (rs : List Nat), (∀ r ∈ rs, scal r) → (encs rs).count 10 = rs.countP (fun r => ((r : Nat) : Int) == 10)
  | [], _ => rfl
  | r :: rs, h => by
    rw [encs, List.count_append, count_enc (h r (by simp)), count_encs rs (fun x hx => h x (by simp [hx])), List.countP_cons]
    by_cases h0 : r = 10
    · subst h0; simp; omega
    · have : (((r : Nat) : Int) == 10) = false := by simp; omega
      rw [if_neg h0, this]
      simp
/-- How many cells of a list are newlines. -/
def newlC (L : List C5) : Nat := L.countP fun e => e.1 == 10
theorem newlC_of {o : Op5} (h : Ins o) : newlC (cellsOf o) = newlO o := by
  unfold newlC cellsOf newlO
  split
  · obtain ⟨h1, h2, _⟩ := valid_text o.t h.utf
    unfold mkC countByte
    rw [List.countP_map]
    conv => rhs; rw [h2]
    rw [count_encs _ h1]
    rfl
  · rfl
theorem newlC_le (L : List C5) : newlC L ≤ L.length := List.countP_le_length

/-- All blocks of numbers are as they were. -/
def Keep32 (w w' : World) : Prop := ∀ (k : Nat) (cur : Array Value), w.heap[k]? = some (.cells cur 21 (0, 0)) → w'.heap[k]? = w.heap[k]?
theorem keep32_below {w w' : World} (hb : Below w.heap.size w w') : Keep32 w w' := fun k cur hk => hb.block k (Array.getElem?_eq_some_iff.1 hk).1
theorem keep32_own {w w' : World} {B : Nat} {v : Value} {zs : List Int} (h : Own32 B w v zs) (hk : Keep32 w w') : Own32 B w' v zs := by
  obtain ⟨hl, h⟩ := h
  refine ⟨hl, ?_⟩
  rcases h with h | ⟨g, cap, cur, h1, h2, h3, h4⟩
  · exact Or.inl h
  · exact Or.inr ⟨g, cap, cur, h1, h2, (hk g cur h3).trans h3, h4⟩
end Go.Proofs.YtpmblhofeabppaaGreatDoor

/- The document's deltas: Same, SameOp, Insert, Len. -/
namespace Go.Proofs.YtpmblhofeabppaaGreatDoor
open Go Go.RowKit Go.Lib
set_option linter.unusedVariables false
set_option maxHeartbeats 1000000 in
theorem ins6_any (o : Op5) (p : Option Addr) (l c : Nat) (w : World) : Calls Tryz.prog 38 #[opV o (.slice p l c)] w fun r w' => r = .returned (.bool (decide (o.k = 1 ∨ o.k = 2))) ∧ Below w.heap.size w w' := by
  obtain ⟨k, t, ⟨x, n, u⟩, cc, A⟩ := o
  simp only
  by_cases k1 : k = 1
  · subst k1
    rw [decide_eq_true (Or.inl rfl)]
    go_enter Tryz.func38, Tryz.ntmps38
    go_wp2
    go_ret
    exact ⟨rfl, by go_grown⟩
  · have e1 : (k == 1) = false := by simpa using k1
    by_cases k2 : k = 2
    · subst k2
      rw [decide_eq_true (Or.inr rfl)]
      go_enter Tryz.func38, Tryz.ntmps38
      go_wp2
      go_ret
      exact ⟨rfl, by go_grown⟩
    · have e2 : (k == 2) = false := by simpa using k2
      rw [decide_eq_false (by omega)]
      go_enter Tryz.func38, Tryz.ntmps38
      go_wp2
      go_ret
      exact ⟨rfl, by go_grown⟩
end Go.Proofs.YtpmblhofeabppaaGreatDoor

/- The document's deltas: Len. -/
namespace Go.Proofs.YtpmblhofeabppaaGreatDoor
open Go Go.RowKit Go.Lib
set_option linter.unusedVariables false

set_option maxHeartbeats 2000000 in
set_option maxRecDepth 100000 in
theorem len6t_any (o : Op5) (p : Option Addr) (l c : Nat) (w : World) (hk : o.k = 1) (hu : brk o.t.data.toList = o.t.size) (ht : o.t.size ≤ 8388608) :
    Calls Tryz.prog 37 #[opV o (.slice p l c)] w fun r w' => r = .returned (.int .i64 (scs o.t.data.toList).length) ∧ Below w.heap.size w w' := by
  obtain ⟨k, t, ⟨x, z, u⟩, cc, A⟩ := o
  simp only at hk hu ht ⊢
  subst hk
  obtain ⟨h1, h2, h3⟩ := valid_text t hu
  obtain ⟨rs, hrs⟩ : ∃ rs, scs t.data.toList = rs := ⟨_, rfl⟩
  rw [hrs] at h1 h2 h3 ⊢
  obtain ⟨n, hnn⟩ : ∃ n, rs.length = n := ⟨_, rfl⟩
  rw [hnn] at h3 ⊢
  have HV : Hid (t.data.toList = encs rs) := h2
  have HN : Hid (rs.length = n) := hnn
  obtain ⟨W0, hW0⟩ : ∃ W, W = w.alloc (.cells #[.int .i64 1, .string t, .int .i64 x, .int .i64 z, .string u, .int .i64 cc, .slice p l c] 40) := ⟨_, rfl⟩
  have b0 : Below w.heap.size w W0 := by rw [hW0]; exact (Below.refl _ _).alloc (Nat.le_refl _) _
  have e0 : W0.cell? ⟨w.heap.size, 0, none⟩ = some (.int .i64 1) := by rw [hW0]; simp
  have e1 : W0.cell? ⟨w.heap.size, 1, none⟩ = some (.string t) := by rw [hW0]; simp
  have hit0 : (W0.iter t 0).heap[W0.heap.size]? = some (.stringIter t 0) := World.iter_heap W0 t 0
  have bi : Below W0.heap.size W0 (W0.iter t 0) := (Below.refl _ _).alloc (Nat.le_refl _) _
  have hbi : Below w.heap.size w (W0.iter t 0) := b0.trans (bi.mono b0.size)
  clear hu h2 hnn hrs
  go_enter Tryz.func37, Tryz.ntmps37
  go_upto_region 1 with fail
  rw [← hW0]
  clear hW0
  go_wp2
  obtain ⟨K, hKK⟩ : ∃ K, K = W0.heap.size := ⟨_, rfl⟩
  have hKw : w.heap.size ≤ K := by rw [hKK]; exact b0.size
  rw [← hKK] at hit0 ⊢
  obtain ⟨wi, hwi⟩ : ∃ wi, wi = W0.iter t 0 := ⟨_, rfl⟩
  rw [← hwi] at hit0 hbi ⊢
  clear hwi bi hKK b0 e0 e1
  go_loopw [3] (fun v wr => ∃ (i : Nat), i ≤ n ∧ v = .int .i64 i ∧ wr.heap[K]? = some (.stringIter t (pos rs i)) ∧ Below w.heap.size w wr) (fun _ wr => t.size - wr.iterPos K)
  case atStart => exact ⟨0, Nat.zero_le _, rfl, hit0, hbi⟩
  case round =>
    clear hit0 hbi
    obtain ⟨i, hin, rfl, hit, hbw⟩ := hrel
    by_cases hlt : i < n
    · obtain ⟨hd, hp⟩ := decode_pos t rs HV.out h1 i (by rw [HN.out]; exact hlt)
      have hps := pos_succ rs i (by rw [HN.out]; exact hlt)
      have hpl := enc_pos (h1 _ (List.getElem_mem (show i < rs.length by rw [HN.out]; exact hlt)))
      obtain ⟨R, hR⟩ : ∃ R, rs[i]'(by rw [HN.out]; exact hlt) = R := ⟨_, rfl⟩
      rw [hR] at hd hps hpl
      have hpq : pos rs i < pos rs (i + 1) := by omega
      have hnx : ∀ ty, (Instr.next (.pointer (some ⟨K, 0, none⟩)) true ty).run Tryz.prog wr = .ok (.tuple #[.bool true, .int .i64 (pos rs i), .int .i32 R]) (wr.iterAt K t (pos rs (i + 1))) := fun ty => by
        have := run_next_any_at (P := Tryz.prog) wr K t (pos rs i) ty hit hp
        rw [hd] at this
        rw [this, hps]
      have hit2 := iterAt_heap wr K t (pos rs i) (pos rs (i + 1)) hit
      have hbw2 := below_iterAt hbw hKw t (pos rs (i + 1))
      have hpos : wr.iterPos K = pos rs i := by simp [World.iterPos, hit]
      have hpos2 : (wr.iterAt K t (pos rs (i + 1))).iterPos K = pos rs (i + 1) := by simp [World.iterPos, hit2]
      have HQ : Hid ((wr.iterAt K t (pos rs (i + 1))).heap[K]? = some (.stringIter t (pos rs (i + 1))) ∧ Below w.heap.size w (wr.iterAt K t (pos rs (i + 1))) ∧ (wr.iterAt K t (pos rs (i + 1))).iterPos K = pos rs (i + 1) ∧ pos rs i < pos rs (i + 1) ∧ pos rs i < t.size ∧ wr.iterPos K = pos rs i) := ⟨hit2, hbw2, hpos2, hpq, hp, hpos⟩
      clear hd hps hpl hR hit hbw hit2 hbw2 hpos hpos2 hpq
      go_wp2
      go_roundw
      case rel => exact ⟨i + 1, by omega, by go_num, HQ.out.1, HQ.out.2.1⟩
      case measure =>
        obtain ⟨_, _, x1, x2, x3, x4⟩ := HQ.out
        rw [x1, x4]
        omega
    · have he : i = n := by omega
      have hpe : ¬ pos rs i < t.size := by
        rw [he, ← HN.out, pos_all, ← HV.out, size_toList]; omega
      have hnx : ∀ ty, (Instr.next (.pointer (some ⟨K, 0, none⟩)) true ty).run Tryz.prog wr = _ := fun ty => run_next_end_at wr K t _ ty hit hpe
      clear hpe hit h1
      subst he
      go_wp2
      go_ret
      exact ⟨rfl, hbw⟩
set_option maxHeartbeats 1000000 in
theorem len6_any (o : Op5) (p : Option Addr) (l c : Nat) (w : World) (hg : opE o = 0) (ht : o.t.size ≤ 8388608) :
    Calls Tryz.prog 37 #[opV o (.slice p l c)] w fun r w' => r = .returned (.int .i64 (len5 o)) ∧ Below w.heap.size w w' := by
  rcases op_good hg with ⟨hi, hk⟩ | ⟨hc, _, hk⟩ | ⟨hc, _, hk⟩
  · unfold len5
    rw [if_pos hk]
    unfold lenO
    rcases hk with hk | hk
    · rw [if_pos hk]
      exact len6t_any o p l c w hk hi.utf ht
    · rw [if_neg (by omega)]
      obtain ⟨k, t, ⟨x, n, u⟩, cc, A⟩ := o
      simp only at hk
      subst hk
      clear hi ht hg
      go_enter Tryz.func37, Tryz.ntmps37
      go_wp2
      go_ret
      exact ⟨rfl, by go_grown⟩
  · unfold len5
    rw [if_neg (by omega)]
    obtain ⟨k, t, ⟨x, n, u⟩, cc, A⟩ := o
    simp only at hk
    subst hk
    clear hc ht hg
    go_enter Tryz.func37, Tryz.ntmps37
    go_wp2
    go_ret
    exact ⟨rfl, by go_grown⟩
  · unfold len5
    rw [if_neg (by omega)]
    obtain ⟨k, t, ⟨x, n, u⟩, cc, A⟩ := o
    simp only at hk
    subst hk
    clear hc ht hg
    go_enter Tryz.func37, Tryz.ntmps37
    go_wp2
    go_ret
    exact ⟨rfl, by go_grown⟩
end Go.Proofs.YtpmblhofeabppaaGreatDoor

/- vellumhand.Make, Is; vellumlaw06's gone, text, large, lives. -/
namespace Go.Proofs.YtpmblhofeabppaaGreatDoor
open Go Go.RowKit Go.Lib
set_option linter.unusedVariables false
/-- Lists that the calls read. -/
structure OkR (E : List Op5) : Prop where
  n : ∀ o ∈ E, o.A.length ≤ 1048576
  len : E.length ≤ 2097152
/-- A text to insert. -/
def txtO (t : ByteArray) : Op5 := ⟨1, t, z0, 0, []⟩
/-- How large a list is. -/
def larN (E : List Op5) : Int := (E.map fun o => (o.t.size : Int) + 10 * o.A.length + 10).sum
theorem larN_append (E F : List Op5) : larN (E ++ F) = larN E + larN F := by unfold larN; rw [List.map_append, List.sum_append]
theorem larN_one (o : Op5) : larN [o] = (o.t.size : Int) + 10 * o.A.length + 10 := by simp [larN]
theorem larN_le {E : List Op5} (h : FitL E) : 0 ≤ larN E ∧ larN E ≤ 20000000 * E.length := by
  induction E with
  | nil => simp [larN]
  | cons o r ih =>
    obtain ⟨h1, h2⟩ := ih (fun x hx => h x (List.mem_cons_of_mem _ hx))
    have ho := h o (List.mem_cons_self ..)
    have e : larN (o :: r) = (o.t.size : Int) + 10 * o.A.length + 10 + larN r := by simp [larN]
    have a1 := ho.t
    have a2 := ho.n
    rw [e, List.length_cons]
    omega
theorem larN_txt (E : List Op5) : (txtS E : Int) + 10 * E.length ≤ larN E := by
  induction E with
  | nil => simp [larN, txtS]
  | cons o r ih =>
    have e : larN (o :: r) = (o.t.size : Int) + 10 * o.A.length + 10 + larN r := by simp [larN]
    have e2 : txtS (o :: r) = o.t.size + txtS r := by simp [txtS]
    rw [e, e2, List.length_cons]
    omega
theorem larN_mem {E : List Op5} {o : Op5} (h : o ∈ E) : (o.t.size : Int) + 10 * o.A.length + 10 ≤ larN E := by
  induction E with
  | nil => cases h
  | cons x r ih =>
    have e : larN (x :: r) = (x.t.size : Int) + 10 * x.A.length + 10 + larN r := by simp [larN]
    have := larN_txt r
    rcases List.mem_cons.1 h with rfl | h
    · omega
    · have := ih h; omega
end Go.Proofs.YtpmblhofeabppaaGreatDoor

/- vellumlaw06.lives answers true. -/
namespace Go.Proofs.YtpmblhofeabppaaGreatDoor
open Go Go.RowKit Go.Lib
set_option linter.unusedVariables false

/-- A row of operations laid at once. -/
theorem row_blk {w : World} {b : Nat} {D : List OV} (h : w.heap[b]? = some (.cells (cellsO D).toArray 40 (0, 0))) : RowO w (.slice (some ⟨b, 0, none⟩) D.length D.length) D := by
  refine ⟨some ⟨b, 0, none⟩, D.length, rfl, Nat.le_refl _, fun h => (by cases h), fun j d hd => ⟨b, 0, rfl, ?_⟩⟩
  obtain ⟨k0, k1, k2, k3, k4, k5, k6⟩ := cellsO_get D j d hd
  have e : ∀ i u, (cellsO D)[i]? = some u → w.cell? ⟨b, i, none⟩ = some u := fun i u hu => by
    rw [cell_of_heap h]
    rw [List.getElem?_toArray]
    exact hu
  rw [Nat.zero_add]
  exact ⟨e _ _ k0, e _ _ k1, e _ _ k2, e _ _ k3, e _ _ k4, e _ _ k5, e _ _ k6⟩
/-- An operation without attributes, as it lies in memory. -/
abbrev ovN (o : Op5) : OV := (o.k, o.t, o.v, o.c, (none, 0, 0))
theorem re_blk {w : World} {b : Nat} {E : List Op5} (h : w.heap[b]? = some (.cells (cellsO (E.map ovN)).toArray 40 (0, 0))) (hA : ∀ o ∈ E, o.A = []) : ReO w (.slice (some ⟨b, 0, none⟩) E.length E.length) E := by
  refine ⟨E.map ovN, ?_, ?_⟩
  · have := row_blk h
    rw [List.length_map] at this
    exact this
  · clear h
    induction E with
    | nil => exact .nil
    | cons o r ih =>
      refine .cons ⟨rfl, rfl, rfl, rfl, ?_⟩ (ih fun x hx => hA x (List.mem_cons_of_mem _ hx))
      rw [hA o (List.mem_cons_self ..)]
      exact RN.nil w
def live0 : List Op5 := [delO 1, txtO ⟨#[97]⟩, delO 2, txtO ⟨#[98]⟩, ⟨3, ⟨#[]⟩, z0, 3, []⟩]
def live1 : List Op5 := [txtO ⟨#[97, 98]⟩, delO 3]
theorem live0_ok : ofE 0 0 live0 = (0, 0) := by kernel_rfl
theorem live0_canon : canonL live0 = live1 := by kernel_rfl
theorem fit_nil {o : Op5} (h1 : o.t.size ≤ 8388608) (h2 : o.v.2.2.size ≤ 1048576) (h3 : o.A = []) : Fit o := ⟨h1, h2, fun q hq => (by rw [h3] at hq; cases hq), by rw [h3]; simp⟩
theorem live0_nil : ∀ o ∈ live0, o.A = [] := by
  intro o ho
  simp only [live0, List.mem_cons, List.not_mem_nil, or_false] at ho
  rcases ho with rfl | rfl | rfl | rfl | rfl <;> rfl
theorem live1_nil : ∀ o ∈ live1, o.A = [] := by
  intro o ho
  simp only [live1, List.mem_cons, List.not_mem_nil, or_false] at ho
  rcases ho with rfl | rfl <;> rfl
theorem live0_fit : FitL live0 := by
  intro o ho
  refine fit_nil ?_ ?_ (live0_nil o ho)
  all_goals
    simp only [live0, List.mem_cons, List.not_mem_nil, or_false] at ho
    rcases ho with rfl | rfl | rfl | rfl | rfl <;> decide
theorem live1_okR : OkR live1 := ⟨fun o ho => by rw [live1_nil o ho]; simp, by decide⟩
theorem live1_good : ∀ o ∈ live1, opE o = 0 := by
  intro o ho
  simp only [live1, List.mem_cons, List.not_mem_nil, or_false] at ho
  rcases ho with rfl | rfl <;> kernel_rfl
end Go.Proofs.YtpmblhofeabppaaGreatDoor

/- Canonical lists of operations in order are in order. -/
namespace Go.Proofs.YtpmblhofeabppaaGreatDoor
open Go Go.RowKit Go.Lib
set_option linter.unusedVariables false

theorem trim_sub (P : List Op5) : (∀ x ∈ trimL P, x ∈ P) ∧ txtS (trimL P) ≤ txtS P ∧ (trimL P).length ≤ P.length := by
  rcases List.eq_nil_or_concat P with rfl | ⟨F, x, rfl⟩
  · exact ⟨fun x h => h, Nat.le_refl _, Nat.le_refl _⟩
  · rw [List.concat_eq_append]
    have e : trimL (F ++ [x]) = if plainR x then F else F ++ [x] := by
      unfold trimL
      rw [List.getLast?_concat, List.dropLast_concat]
    rw [e]
    split
    · exact ⟨fun y h => List.mem_append_left _ h, by rw [txtS_append]; omega, by simp⟩
    · exact ⟨fun y h => h, Nat.le_refl _, Nat.le_refl _⟩
/-- The canonical list of operations in order is in order, and no greater. -/
theorem canon_ok {E : List Op5} (h : OkE E) : OkE (canonL E) ∧ txtS (canonL E) ≤ txtS E ∧ (canonL E).length ≤ E.length := by
  have hz : BSz (bldR E) E.length (txtS E) := by
    have := bldR_sz E BSz.nil h.fit
    rw [Nat.zero_add, Nat.zero_add] at this
    exact this
  obtain ⟨c1, c2, c3, c4⟩ := canon_spec h.wel
  obtain ⟨s1, s2⟩ := canon_sums h.wel
  have key : (∀ x ∈ canonL E, FitA x) ∧ txtS (canonL E) ≤ txtS E ∧ (canonL E).length ≤ E.length := by
    rw [← finB_canon h.wel]
    obtain ⟨a, b, c⟩ := hz.set
    have a2 := hz.fit
    have b2 := hz.txt
    have c2 := hz.len
    unfold finB
    by_cases h0 : 0 < (bldR E).2
    · rw [if_pos h0]
      unfold setB at a b c
      rw [if_pos h0] at a b c
      exact ⟨a, b, c⟩
    · rw [if_neg h0]
      obtain ⟨t1, t2, t3⟩ := trim_sub (bldR E).1
      exact ⟨fun x hx => a2 x (t1 x hx), by omega, by omega⟩
  have hb := h.base
  have hr := h.res
  have ht := h.txt
  have hl := h.len
  exact ⟨⟨wel_good c1 (by omega), key.1, by omega, by omega, by omega, by omega⟩, key.2⟩
theorem OkE.okR {E : List Op5} (h : OkE E) (hl : E.length ≤ 2097152) : OkR E := ⟨fun o ho => (h.fit o ho).n, hl⟩
theorem OkE.fitL {E : List Op5} (h : OkE E) : FitL E := fitA_all h.fit h.txt
/-- A list that isn't large. -/
theorem small_of {E : List Op5} (h : decide (60000 < larN E) = false) : txtS E ≤ 60000 ∧ E.length ≤ 6000 ∧ ∀ o ∈ E, o.A.length ≤ 6000 := by
  have h1 := of_decide_eq_false h
  have h2 := larN_txt E
  exact ⟨by omega, by omega, fun o ho => by have := larN_mem ho; omega⟩
/-- What a loop over a list of the call's own and over a row of pieces reads. -/
theorem both_read {w : World} {B1 B2 : Nat} {v1 v2 : Value} {P : List Value} {C : List Op5} (h1 : CoO w B1 v1 C) (h2 : OwnI w B2 v2 P) (h3 : PieD w B2 P C) :
    ∃ p1 c1 p2 c2, v1 = .slice p1 C.length c1 ∧ v2 = .slice p2 C.length c2 ∧ ∀ m, m < C.length → ∃ (e : Op5) (d : OV) (b ga : Nat) (s : Value), C[m]? = some e ∧ p1 = some ⟨b, 0, none⟩ ∧ OpAt w b (0 + m * 7) d ∧ ovV d = opV e (slV d.2.2.2.2) ∧ d.1 = e.k ∧ OwnA w B1 (slV d.2.2.2.2) e.A ∧ p2 = some ⟨ga, 0, none⟩ ∧ w.cell? ⟨ga, m, none⟩ = some (pieceQ e s) ∧ OwnA w B2 s e.A := by
  obtain ⟨D, hD, hO⟩ := h1
  have hl1 := forall2_len hO
  have hl2 := forall2_len h3
  obtain ⟨p1, c1, e1⟩ := own_slice hD
  obtain ⟨p2, c2, e2⟩ := own_slice h2
  refine ⟨p1, c1, p2, c2, by rw [e1, hl1], by rw [e2, hl2], fun m hm => ?_⟩
  obtain ⟨ga, c, x, hv', hB, hx, hc⟩ := own_cell h2 m (by omega)
  obtain ⟨e, s, he, rfl, hs⟩ := oneI h3 hx
  rw [e2] at hv'
  simp only [Value.slice.injEq] at hv'
  have hd : D[m]? = some (D[m]'(by omega)) := List.getElem?_eq_getElem (by omega)
  obtain ⟨y, hy, r⟩ := forall2_get hO m _ hd
  obtain rfl : y = e := Option.some.inj (hy.symm.trans he)
  rcases hD.2 with ⟨_, h0⟩ | ⟨g, cap, cur, e3, _, _, _, _, _, _⟩
  · omega
  · rw [e1] at e3
    simp only [Value.slice.injEq] at e3
    have hD' := hD
    unfold OwnO at hD'
    rw [e1, e3.1] at hD'
    have hat := own_opAt hD' m _ hd
    exact ⟨y, D[m]'(by omega), g, ga, s, he, e3.1, hat, opV_of ⟨r.1, r.2.1, r.2.2.1, r.2.2.2.1, own_RN r.2.2.2.2⟩, r.1, r.2.2.2.2, hv'.1, hc, hs⟩
end Go.Proofs.YtpmblhofeabppaaGreatDoor

/- Next and Rest of a Walker. -/
namespace Go.Proofs.YtpmblhofeabppaaGreatDoor
open Go Go.RowKit Go.Lib
set_option linter.unusedVariables false

set_option maxHeartbeats 2000000 in
set_option maxRecDepth 100000 in
theorem nextNo_any {I : List Nat} {a : Nat → Addr} (q : Nat) (n : Int) (w : World) (hI : 11 ∈ I) (hS : Std I a w) (hn : n < 1) :
    Calls Tryz.prog 17 #[.pointer (some ⟨q, 0, none⟩), .int .i64 n] w fun e w' => e = .returned (.tuple #[.nilIface, errV a 11]) ∧ Below w.heap.size w w' := by
  have c0 := hS.er.cell 11 hI
  have e0 : gE 11 = 0 := rfl
  rw [e0] at c0
  clear hS hI e0
  go_enter Tryz.func17, Tryz.ntmps17
  go_wp2
  go_quiet (fail)
  go_wp2
  go_ret2
  exact ⟨rfl, below_drewN (Below.refl _ _) _⟩
set_option maxHeartbeats 2000000 in
set_option maxRecDepth 100000 in
theorem nextW_any {B q g : Nat} {R : List Op5} {N T K : Nat} (n : Int) (w : World) (h : WkV w B q g R) (hR : Rst R N T K) (hT : T ≤ 8388608) (hK : K ≤ 2097152) (hN : N ≤ 8388608) (hn : 1 ≤ n ∧ n ≤ 9223372036854775807) :
    Calls Tryz.prog 17 #[.pointer (some ⟨q, 0, none⟩), .int .i64 n] w fun e w' => ∃ s, e = .returned (.tuple #[pieceQ (nx7 R n).1 s, .nilIface]) ∧ OwnA w' B s (nx7 R n).1.A ∧ WkV w' B q g (nx7 R n).2 ∧ FrW q g w w' := by
  have cT := take_any n w h hR hT hK hN hn
  have hn1 : ¬ n < 1 := by omega
  obtain ⟨P, hP⟩ : ∃ P, (nx7 R n).1 = P := ⟨_, rfl⟩
  rw [hP] at cT ⊢
  clear h hR hP
  go_enter Tryz.func17, Tryz.ntmps17
  go_wp2_with fail
  refine cT.mono ?_; rintro r w2 ⟨s, rfl, own2, h2, f2⟩
  obtain ⟨u, x, hux⟩ := pieceQ_if P s
  have HU : Hid (pieceQ P s = .iface u x) := hux
  have HW : Hid (OwnA w2 B s P.A ∧ WkV w2 B q g (nx7 R n).2 ∧ FrW q g w w2) := ⟨own2, h2, f2⟩
  rw [hux]
  clear cT own2 h2 f2 hux
  go_wp2
  go_ret2
  exact ⟨s, by rw [HU.out]; rfl, HW.out⟩
/-- What a Walker's row tells, one by one. -/
theorem WkV.row {w : World} {B q g : Nat} {R : List Op5} (h : WkV w B q g R) : ∃ p cap, w.cell? ⟨q, 0, none⟩ = some (.slice p R.length cap) ∧ R.length ≤ cap ∧ ∀ j, j < R.length → ∃ off e s, p = some ⟨g, off, none⟩ ∧ R[j]? = some e ∧ w.cell? ⟨g, off + j, none⟩ = some (pieceQ e s) ∧ OwnA w B s e.A := by
  obtain ⟨_, _, _, p, cap, h4, h5, h6⟩ := h
  refine ⟨p, cap, by rw [cell_of_heap h4]; rfl, h5, fun j hj => ?_⟩
  obtain ⟨off, cs, e, hgo, hr⟩ := h6 (fun h0 => by rw [h0] at hj; simp at hj)
  obtain ⟨s, a1, a2⟩ := hr j R[j] (List.getElem?_eq_getElem hj)
  exact ⟨off, R[j], s, e, List.getElem?_eq_getElem hj, by rw [cell_of_heap hgo]; exact a1, a2⟩
set_option maxHeartbeats 4000000 in
set_option maxRecDepth 100000 in
theorem restW_any {I : List Nat} {a : Nat → Addr} {B q g : Nat} {R : List Op5} {N T K : Nat} (w : World) (hI : ∀ i ∈ IxO, i ∈ I) (hS : Std I a w) (h : WkV w B q g R) (hR : Rst R N T K) (hT : T ≤ 8388608) (hK : K ≤ 1048576) (hN : N ≤ 1048576) :
    Calls Tryz.prog 18 #[.pointer (some ⟨q, 0, none⟩)] w fun e w' => ∃ v', e = .returned v' ∧ DelV w' w.heap.size w.heap.size v' R ∧ Below w.heap.size w w' := by
  have ok := hR.okE hT (by omega)
  have hC : Hid (∀ v W, Below w.heap.size w W → CoO W w.heap.size v R → Calls Tryz.prog 12 #[v] W fun r w' => ∃ dv, r = .returned (.tuple #[dv, .int .i64 0, .nilIface]) ∧ DelV w' w.heap.size w.heap.size dv R ∧ Below W.heap.size W w') := fun v W hW hv => by
    have e0 := ofE_ok R 0 0 ok.good (by have := ok.base; omega) (by have := ok.res; omega)
    have := buildOf_any v R W hI (hS.below hW) hv.re ok.fitL (Nat.le_trans hR.len hN) ok.txt
    rw [e0] at this
    refine this.mono ?_
    rintro r w' ⟨dv, rfl, h1, -, h3⟩
    refine ⟨dv, rfl, ?_, h3⟩
    have d := h1 rfl
    rw [hR.canon] at d
    obtain ⟨q', pv, PL, x1, x2, x3, x4, x5⟩ := d
    exact ⟨q', pv, PL, x1, Nat.le_trans hW.size x2, x3, own_weaken x4 hW.size, x5.weaken hW.size⟩
  obtain ⟨p, cap, c0, hcap, hrd⟩ := h.row
  have HV : Hid (∀ j, j < R.length → ∃ off e s, p = some ⟨g, off, none⟩ ∧ R[j]? = some e ∧ w.cell? ⟨g, off + j, none⟩ = some (pieceQ e s) ∧ OwnA w B s e.A) := hrd
  have HG : Hid (∀ o ∈ R, opE o = 0 ∧ o.A.length ≤ 2097152) := fun o ho => ⟨hR.good o ho, by have := hR.attr o ho; omega⟩
  have hl : R.length ≤ 1048576 := Nat.le_trans hR.len hN
  obtain ⟨n, hn⟩ : ∃ n, R.length = n := ⟨_, rfl⟩
  have HN : Hid (R.length = n) := hn
  rw [hn] at c0 hl HV hcap
  clear h hR hrd hn ok hS
  go_enter Tryz.func18, Tryz.ntmps18
  go_wp2_with (at_make; refine wpList_make_op _ rfl _ _ rfl w.heap.size .i64 .i64 _ n rfl rfl rfl (by omega) (Nat.le_refl _) ?_; intro v0 w1 hown hgr; have hb1 : Below w.heap.size w w1 := (Below.refl _ _).grown hgr (Nat.le_refl _) (fun k hk => by cases hk); have c1 := (hb1.cell (lt_of_cell c0)).trans c0; clear hgr)
  go_loopw [3, 20] (fun al i wr => ∃ (k : Nat) (D : List OV), k ≤ n ∧ i = .int .i64 k ∧ D.length = k ∧ OwnO wr w.heap.size al D ∧ OwD wr w.heap.size D (R.take k) ∧ Below w.heap.size w wr) (fun _ i _ => n - (RowKit.intOf i).toNat)
  case atStart => exact ⟨0, [], Nat.zero_le _, rfl, rfl, hown, .nil, hb1⟩
  case round =>
    clear hown hb1 c1
    obtain ⟨k, D, hk, rfl, hDl, hown, hsp, hbw⟩ := hrel
    by_cases hlt : k < n
    · have hltI : (k : Int) < n := by omega
      obtain ⟨off, e, s, rfl, he, hc, hs⟩ := HV.out k hlt
      have c2 := (hbw.cell (lt_of_cell hc)).trans hc
      have hs2 := owns_below hs hbw
      obtain ⟨hg1, hA1⟩ := HG.out e (List.mem_of_getElem? he)
      have HT : Hid (R.take (k + 1) = R.take k ++ [e]) := by show _ = _; rw [List.take_add_one, he]; rfl
      have hge : Hid (∀ j, u3.ownBlock = some j → w.heap.size ≤ j) := fun j hj => (owns_block hown j hj).1
      have HO : Hid (OwnO wr w.heap.size u3 D ∧ OwD wr w.heap.size D (R.take k)) := ⟨hown, hsp⟩
      have hlz : w.heap.size ≤ wr.heap.size := hbw.size
      have hR2 := own_RN hs2
      obtain ⟨u, y, hux⟩ := pieceQ_if e s
      have HU : Hid (pieceQ e s = .iface u y) := hux
      have HK2 : Hid (∀ v5 w5, OwnA w5 wr.heap.size v5 e.A → Below wr.heap.size wr w5 → ∃ p5 c5, v5 = .slice p5 e.A.length c5 ∧ Below w.heap.size w (w5.alloc (.cells (opC e v5) 40)) ∧ OwnO (w5.alloc (.cells (opC e v5) 40)) w.heap.size u3 D ∧ OpAt (w5.alloc (.cells (opC e v5) 40)) w5.heap.size 0 (e.k, e.t, e.v, e.c, p5, e.A.length, c5) ∧ OwD (w5.alloc (.cells (opC e v5) 40)) w.heap.size (D ++ [(e.k, e.t, e.v, e.c, p5, e.A.length, c5)]) (R.take (k + 1))) := fun v5 w5 own5 hb5 => by
        obtain ⟨p5, c5, rfl⟩ := own_slice own5
        have ba : Below w5.heap.size w5 (w5.alloc (.cells (opC e (.slice p5 e.A.length c5)) 40)) := (Below.refl _ _).alloc (Nat.le_refl _) _
        have bw5 : Below w.heap.size w w5 := hbw.trans (hb5.mono hlz)
        refine ⟨p5, c5, rfl, bw5.trans (ba.mono bw5.size), owns_below (owns_below hown hb5) ba, ⟨by simp, by simp, by simp, by simp, by simp, by simp, by simp⟩, ?_⟩
        rw [HT.out]
        exact forall2_append ((hsp.below hb5).below ba) (.cons ⟨rfl, rfl, rfl, rfl, own_weaken (owns_below own5 ba) hlz⟩ .nil)
      rw [hux] at c2
      have hkI : (k : Int) < (n : Int) := hltI
      clear he hc hs hs2 hown hsp hux
      have hl33 : D.length ≤ 33554432 := by omega
      go_wp2_with (first
        | (refine wpList_opP rfl (.tmp 25) rfl e s HU.out.symm hg1 hR2 hA1 ?_; intro v5 w5 own5 hb5; obtain ⟨p5, c5, rfl, b7, o7, at7, d7⟩ := HK2.out v5 w5 own5 hb5; have HO7 : Hid (OwnO _ w.heap.size u3 D ∧ OpAt _ w5.heap.size 0 _) := ⟨o7, at7⟩; have HP7 : Hid (OwD _ w.heap.size _ _) := d7; have bw7 : Below w.heap.size w _ := b7; clear own5 hb5 o7 at7 d7 b7)
        | (at_builtin; refine wpList_append_ops rfl (.tmp 24) (.tmp 27) rfl w.heap.size u3 D rfl HO7.out.1 w5.heap.size 1 _ rfl HO7.out.2 hl33 bw7.size ?_; intro v8 w8 own8 gr8 hat8; have hsp8 : Hid (OwD w8 w.heap.size _ _) := HP7.out.keep (keepA_grownO HO7.out.1 gr8); have b8 := bw7.grown gr8 bw7.size (fun j hj => hge.out j hj); have HO8 : Hid (OwnO w8 w.heap.size v8 _) := own8; clear own8 gr8 hat8 HO7 HP7))
      go_roundw
      case rel => exact ⟨k + 1, _, by omega, by go_num, by simp [hDl], HO8.out, hsp8.out, b8⟩
      case measure => simp [RowKit.intOf]; omega
    · have hltI : ¬ (k : Int) < n := by omega
      have hE : R.take k = R := List.take_of_length_le (by rw [HN.out]; omega)
      rw [hE] at hsp
      have cO := hC.out u3 wr hbw ⟨D, hown, hsp⟩
      clear hown hsp hC
      go_wp2_with fail
      refine cO.mono ?_; rintro r w5 ⟨dv, rfl, d5, hb5⟩
      have b5 := hbw.trans (hb5.mono hbw.size)
      have HD : Hid (DelV w5 w.heap.size w.heap.size dv R) := d5
      clear cO d5 hb5
      go_wp2
      go_ret
      exact ⟨dv, rfl, HD.out, b5⟩
end Go.Proofs.YtpmblhofeabppaaGreatDoor

/- One step of two Walkers. -/
namespace Go.Proofs.YtpmblhofeabppaaGreatDoor
open Go Go.RowKit Go.Lib
set_option linter.unusedVariables false

/-- What a step tells, and what is left then. -/
def st7 (R S : List Op5) : (Option Op5 × Option Op5) × List Op5 × List Op5 :=
  if kind7 S = 1 ∨ kind7 S = 2 then ((none, some (nx7 S (left7 S)).1), R, (nx7 S (left7 S)).2)
  else if kind7 R = 4 then ((some (nx7 R (left7 R)).1, none), (nx7 R (left7 R)).2, S)
  else ((some (nx7 R (min (left7 R) (left7 S))).1, some (nx7 S (min (left7 R) (left7 S))).1), (nx7 R (min (left7 R) (left7 S))).2, (nx7 S (min (left7 R) (left7 S))).2)
/-- A piece in memory, or nil. -/
def PcV (w : World) (B : Nat) (v : Value) : Option Op5 → Prop
  | none => v = .nilIface
  | some e => ∃ s, v = pieceQ e s ∧ OwnA w B s e.A
theorem PcV.keep {w w' : World} {B : Nat} {v : Value} {o : Option Op5} (h : PcV w B v o) (k : KeepA w w') : PcV w' B v o := by
  cases o with
  | none => exact h
  | some e => obtain ⟨s, h1, h2⟩ := h; exact ⟨s, h1, keepA_own h2 k⟩
theorem PcV.form {w : World} {B : Nat} {v : Value} {o : Option Op5} (h : PcV w B v o) : v = .nilIface ∨ ∃ u x, v = .iface u x := by
  cases o with
  | none => exact .inl h
  | some e => obtain ⟨s, h1, h2⟩ := h; obtain ⟨u, x, e⟩ := pieceQ_if e s; exact .inr ⟨u, x, h1.trans e⟩
theorem asDel_no {o : Op5} (s : Value) (hg : opE o = 0) (hk : o.k ≠ 4) (W : World) : (Instr.typeAssert (pieceQ o s) 34 79 true).run Tryz.prog W = .ok (.tuple #[.agg #[.int .i64 0], .bool false]) W := by
  rcases kinds_of hg with h | h | h | h
  · rw [pieceQ_1 h]; exact as_i_d _ W
  · rw [pieceQ_2 h]; exact as_e_d _ W
  · rw [pieceQ_3 h]; exact as_r_d _ W
  · exact absurd h hk
theorem asDel_yes {o : Op5} (s : Value) (hk : o.k = 4) (W : World) : (Instr.typeAssert (pieceQ o s) 34 79 true).run Tryz.prog W = .ok (.tuple #[.agg #[.int .i64 o.c], .bool true]) W := by
  rw [pieceQ_4 hk]; exact as_d_d _ W
theorem left_range {R : List Op5} {N T K : Nat} (h : Rst R N T K) (hT : T ≤ 8388608) (hN : N ≤ 4194304) : 1 ≤ left7 R ∧ left7 R ≤ 1099511627776 := by
  cases R with
  | nil => exact ⟨by show (1 : Int) ≤ 1099511627776; omega, Int.le_refl _⟩
  | cons x r =>
    have hx := h.good x (List.mem_cons_self ..)
    exact ⟨len5_pos hx, (len5_range hx ((h.okE hT hN).fitL x (List.mem_cons_self ..))).2⟩
structure Two (w : World) (B qa ga qb gb : Nat) (R S : List Op5) : Prop where
  a : WkV w B qa ga R
  b : WkV w B qb gb S
  n1 : qa ≠ qb ∧ qa ≠ gb
  n2 : ga ≠ qb ∧ ga ≠ gb
theorem Two.below {w w' : World} {B qa ga qb gb : Nat} {R S : List Op5} (h : Two w B qa ga qb gb R S) (b : Below w.heap.size w w') : Two w' B qa ga qb gb R S := ⟨h.a.below b, h.b.below b, h.n1, h.n2⟩
theorem Two.stepA {w w' : World} {B qa ga qb gb : Nat} {R R' S : List Op5} (h : Two w B qa ga qb gb R S) (hw : WkV w' B qa ga R') (f : FrW qa ga w w') : Two w' B qa ga qb gb R' S :=
  ⟨hw, h.b.other f ⟨Ne.symm h.n1.1, Ne.symm h.n2.1⟩ ⟨Ne.symm h.n1.2, Ne.symm h.n2.2⟩, h.n1, h.n2⟩
theorem Two.stepB {w w' : World} {B qa ga qb gb : Nat} {R S S' : List Op5} (h : Two w B qa ga qb gb R S) (hw : WkV w' B qb gb S') (f : FrW qb gb w w') : Two w' B qa ga qb gb R S' :=
  ⟨h.a.other f h.n1 h.n2, hw, h.n1, h.n2⟩
def StepR (w w' : World) (B qa ga qb gb : Nat) (R S : List Op5) (e : Ending) : Prop :=
  ∃ p q, e = .returned (.tuple #[p, q]) ∧ PcV w' B p (st7 R S).1.1 ∧ PcV w' B q (st7 R S).1.2 ∧ Two w' B qa ga qb gb (st7 R S).2.1 (st7 R S).2.2 ∧ It7 TW B w w'
set_option maxHeartbeats 4000000 in
set_option maxRecDepth 100000 in
theorem step_any {B qa ga qb gb : Nat} {R S : List Op5} {N T K : Nat} (w : World) (h : Two w B qa ga qb gb R S) (hR : Rst R N T K) (hS : Rst S N T K) (hT : T ≤ 8388608) (hK : K ≤ 2097152) (hN : N ≤ 4194304) :
    Calls Tryz.prog 35 #[.pointer (some ⟨qa, 0, none⟩), .pointer (some ⟨qb, 0, none⟩)] w fun e w' => StepR w w' B qa ga qb gb R S e := by
  have HH : Hid (Two w B qa ga qb gb R S) := h
  have lR := left_range hR hT hN
  have lS := left_range hS hT hN
  have cNB := next7_any w h.b
  have cIB := fun p l c W => inserts_any (top7 S) p l c W (top_good hS.good)
  rw [top_kind] at cIB
  have cLB := fun W (hW : Two W B qa ga qb gb R S) => left7_any W hW.b hS.good
  have cLA := fun W (hW : Two W B qa ga qb gb R S) => left7_any W hW.a hR.good
  have cNA := fun W (hW : Two W B qa ga qb gb R S) => next7_any W hW.a
  have cTA := fun (n : Int) W (hW : WkV W B qa ga R) (hn : 1 ≤ n ∧ n ≤ 1099511627776) => take_any n W hW hR hT hK (by omega) ⟨hn.1, by omega⟩
  have cTB := fun (n : Int) W (hW : WkV W B qb gb S) (hn : 1 ≤ n ∧ n ≤ 1099511627776) => take_any n W hW hS hT hK (by omega) ⟨hn.1, by omega⟩
  have HB : Hid (B ≤ w.heap.size) := (by have := h.a.lq; have := h.a.lt; show _ ≤ _; omega)
  have HQ : Hid (B ≤ qa ∧ B ≤ ga ∧ B ≤ qb ∧ B ≤ gb) := ⟨h.a.lq, h.a.lg, h.b.lq, h.b.lg⟩
  obtain ⟨TS, hTS⟩ : ∃ T, top7 S = T := ⟨_, rfl⟩
  rw [hTS] at cNB
  simp only [hTS] at cIB
  have gTR := top_good hR.good
  have kTR := top_kind R
  obtain ⟨TR, hTR⟩ : ∃ T, top7 R = T := ⟨_, rfl⟩
  simp only [hTR] at cNA
  rw [hTR] at gTR kTR
  obtain ⟨LR, hLR⟩ : ∃ x, left7 R = x := ⟨_, rfl⟩
  obtain ⟨LS, hLS⟩ : ∃ x, left7 S = x := ⟨_, rfl⟩
  have HL : Hid (left7 R = LR ∧ left7 S = LS) := ⟨hLR, hLS⟩
  rw [hLR] at lR
  rw [hLS] at lS
  simp only [hLS] at cLB
  simp only [hLR] at cLA
  clear h hR hS hTS hTR hLR hLS
  by_cases h1 : kind7 S = 1 ∨ kind7 S = 2
  · have HS : Hid (st7 R S = ((none, some (nx7 S LS).1), R, (nx7 S LS).2)) := by show _ = _; unfold st7; rw [if_pos h1, HL.out.2]
    rw [decide_eq_true h1] at cIB
    clear h1 cLA cNA cTA gTR kTR
    go_enter Tryz.func35, Tryz.ntmps35
    go_wp2_with fail
    refine cNB.mono ?_; rintro r w2 ⟨s, rfl, own2, hb2⟩
    obtain ⟨p2, c2, rfl⟩ := own_slice own2
    obtain ⟨u, x, hux⟩ := pieceQ_if TS (.slice p2 TS.A.length c2)
    have cI := cIB p2 TS.A.length c2 w2
    rw [hux] at cI ⊢
    clear cNB cIB own2 hux
    go_wp2_with fail
    refine cI.mono ?_; rintro r w3 ⟨rfl, hb3⟩
    have b3 := hb2.trans (hb3.mono hb2.size)
    have H3 : Hid (Two w3 B qa ga qb gb R S ∧ It7 TW B w w3) := ⟨HH.out.below b3, It7.of_below b3⟩
    have cL := cLB w3 H3.out.1
    clear cLB cI hb2 hb3 b3
    go_wp2_with fail
    refine cL.mono ?_; rintro r w4 ⟨rfl, hb4⟩
    have H4 : Hid (Two w4 B qa ga qb gb R S ∧ It7 TW B w w4) := ⟨H3.out.1.below hb4, H3.out.2.trans (It7.of_below hb4)⟩
    have cT := cTB LS w4 H4.out.1.b lS
    clear cL cTB H3 hb4
    go_wp2_with fail
    refine cT.mono ?_; rintro r w5 ⟨s5, rfl, o5, k5, f5⟩
    obtain ⟨u5, x5, hux5⟩ := pieceQ_if (nx7 S LS).1 s5
    have H5 : Hid (pieceQ (nx7 S LS).1 s5 = .iface u5 x5 ∧ OwnA w5 B s5 (nx7 S LS).1.A ∧ Two w5 B qa ga qb gb R (nx7 S LS).2 ∧ It7 TW B w w5) := ⟨hux5, o5, H4.out.1.stepB k5 f5, H4.out.2.trans (f5.it HQ.out.2.2.1 HQ.out.2.2.2)⟩
    rw [hux5]
    clear cT o5 k5 f5 hux5
    go_wp2
    go_ret2
    unfold StepR
    rw [HS.out]
    exact ⟨_, _, rfl, rfl, ⟨s5, H5.out.1.symm, H5.out.2.1⟩, H5.out.2.2⟩
  · rw [decide_eq_false h1] at cIB
    by_cases h2 : kind7 R = 4
    · have HS : Hid (st7 R S = ((some (nx7 R LR).1, none), (nx7 R LR).2, S)) := by show _ = _; unfold st7; rw [if_neg h1, if_pos h2, HL.out.1]
      have aD := fun s W => asDel_yes (o := TR) s (by omega) W
      clear h1 cLB cTB gTR kTR
      go_enter Tryz.func35, Tryz.ntmps35
      go_wp2_with fail
      refine cNB.mono ?_; rintro r w2 ⟨s, rfl, own2, hb2⟩
      obtain ⟨p2, c2, rfl⟩ := own_slice own2
      obtain ⟨u, x, hux⟩ := pieceQ_if TS (.slice p2 TS.A.length c2)
      have cI := cIB p2 TS.A.length c2 w2
      rw [hux] at cI ⊢
      clear cNB cIB own2 hux
      go_wp2_with fail
      refine cI.mono ?_; rintro r w3 ⟨rfl, hb3⟩
      have b3 := hb2.trans (hb3.mono hb2.size)
      have H3 : Hid (Two w3 B qa ga qb gb R S ∧ It7 TW B w w3) := ⟨HH.out.below b3, It7.of_below b3⟩
      have cN := cNA w3 H3.out.1
      clear cNA cI hb2 hb3 b3
      go_wp2_with fail
      refine cN.mono ?_; rintro r w4 ⟨s4, rfl, own4, hb4⟩
      obtain ⟨u4, x4, hux4⟩ := pieceQ_if TR s4
      have a4 := aD s4
      rw [hux4] at a4 ⊢
      have H4 : Hid (Two (w4.alloc (.cells #[.int .i64 TR.c] 79)) B qa ga qb gb R S ∧ It7 TW B w (w4.alloc (.cells #[.int .i64 TR.c] 79))) := ⟨(H3.out.1.below hb4).below ((Below.refl _ _).alloc (Nat.le_refl _) _), (H3.out.2.trans (It7.of_below hb4)).trans (It7.of_below ((Below.refl _ _).alloc (Nat.le_refl _) _))⟩
      have cL := cLA _ H4.out.1
      clear cN H3 own4 hb4 hux4 aD cLA
      go_wp2_with fail
      refine cL.mono ?_; rintro r w5 ⟨rfl, hb5⟩
      have H5 : Hid (Two w5 B qa ga qb gb R S ∧ It7 TW B w w5) := ⟨H4.out.1.below hb5, H4.out.2.trans (It7.of_below hb5)⟩
      have cT := cTA LR w5 H5.out.1.a lR
      clear cL cTA H4 hb5
      go_wp2_with fail
      refine cT.mono ?_; rintro r w6 ⟨s6, rfl, o6, k6, f6⟩
      obtain ⟨u6, x6, hux6⟩ := pieceQ_if (nx7 R LR).1 s6
      have H6 : Hid (pieceQ (nx7 R LR).1 s6 = .iface u6 x6 ∧ OwnA w6 B s6 (nx7 R LR).1.A ∧ Two w6 B qa ga qb gb (nx7 R LR).2 S ∧ It7 TW B w w6) := ⟨hux6, o6, H5.out.1.stepA k6 f6, H5.out.2.trans (f6.it HQ.out.1 HQ.out.2.1)⟩
      rw [hux6]
      clear cT o6 k6 f6 hux6
      go_wp2
      go_ret2
      unfold StepR
      rw [HS.out]
      exact ⟨_, _, rfl, ⟨s6, H6.out.1.symm, H6.out.2.1⟩, rfl, H6.out.2.2⟩
    · have HS : Hid (st7 R S = ((some (nx7 R (min LR LS)).1, some (nx7 S (min LR LS)).1), (nx7 R (min LR LS)).2, (nx7 S (min LR LS)).2)) := by show _ = _; unfold st7; rw [if_neg h1, if_neg h2, HL.out.1, HL.out.2]
      have aD := fun s W => asDel_no (o := TR) s gTR (by omega) W
      obtain ⟨M, hM⟩ : ∃ M, min LR LS = M := ⟨_, rfl⟩
      have lM : 1 ≤ M ∧ M ≤ 1099511627776 := by omega
      rw [hM] at HS
      have HM : Hid (min LR LS = M) := hM
      clear h1 h2 gTR kTR hM
      go_enter Tryz.func35, Tryz.ntmps35
      go_wp2_with fail
      refine cNB.mono ?_; rintro r w2 ⟨s, rfl, own2, hb2⟩
      obtain ⟨p2, c2, rfl⟩ := own_slice own2
      obtain ⟨u, x, hux⟩ := pieceQ_if TS (.slice p2 TS.A.length c2)
      have cI := cIB p2 TS.A.length c2 w2
      rw [hux] at cI ⊢
      clear cNB cIB own2 hux
      go_wp2_with fail
      refine cI.mono ?_; rintro r w3 ⟨rfl, hb3⟩
      have b3 := hb2.trans (hb3.mono hb2.size)
      have H3 : Hid (Two w3 B qa ga qb gb R S ∧ It7 TW B w w3) := ⟨HH.out.below b3, It7.of_below b3⟩
      have cN := cNA w3 H3.out.1
      clear cNA cI hb2 hb3 b3
      go_wp2_with fail
      refine cN.mono ?_; rintro r w4 ⟨s4, rfl, own4, hb4⟩
      obtain ⟨u4, x4, hux4⟩ := pieceQ_if TR s4
      have a4 := aD s4
      rw [hux4] at a4 ⊢
      have H4 : Hid (Two (w4.alloc (.cells #[.int .i64 0] 79)) B qa ga qb gb R S ∧ It7 TW B w (w4.alloc (.cells #[.int .i64 0] 79))) := ⟨(H3.out.1.below hb4).below ((Below.refl _ _).alloc (Nat.le_refl _) _), (H3.out.2.trans (It7.of_below hb4)).trans (It7.of_below ((Below.refl _ _).alloc (Nat.le_refl _) _))⟩
      have cL := cLA _ H4.out.1
      clear cN H3 own4 hb4 hux4 aD cLA
      go_wp2_with fail
      refine cL.mono ?_; rintro r w5 ⟨rfl, hb5⟩
      have H5 : Hid (Two w5 B qa ga qb gb R S ∧ It7 TW B w w5) := ⟨H4.out.1.below hb5, H4.out.2.trans (It7.of_below hb5)⟩
      have cL2 := cLB _ H5.out.1
      clear cL H4 hb5 cLB
      go_wp2_with fail
      refine cL2.mono ?_; rintro r w6 ⟨rfl, hb6⟩
      have H6 : Hid (Two w6 B qa ga qb gb R S ∧ It7 TW B w w6) := ⟨H5.out.1.below hb6, H5.out.2.trans (It7.of_below hb6)⟩
      clear cL2 H5 hb6
      have cT := cTA M w6 H6.out.1.a lM
      clear cTA
      go_wp2_with fail
      rw [HM.out]
      refine cT.mono ?_; rintro r w7 ⟨s7, rfl, o7, k7, f7⟩
      obtain ⟨u7, x7, hux7⟩ := pieceQ_if (nx7 R M).1 s7
      have H7 : Hid (pieceQ (nx7 R M).1 s7 = .iface u7 x7 ∧ OwnA w7 B s7 (nx7 R M).1.A ∧ Two w7 B qa ga qb gb (nx7 R M).2 S ∧ It7 TW B w w7) := ⟨hux7, o7, H6.out.1.stepA k7 f7, H6.out.2.trans (f7.it HQ.out.1 HQ.out.2.1)⟩
      rw [hux7]
      have cU := cTB M w7 H7.out.2.2.1.b lM
      clear cT o7 k7 f7 hux7 cTB
      go_wp2_with fail
      refine cU.mono ?_; rintro r w8 ⟨s8, rfl, o8, k8, f8⟩
      obtain ⟨u8, x8, hux8⟩ := pieceQ_if (nx7 S M).1 s8
      have H8 : Hid (pieceQ (nx7 R M).1 s7 = .iface u7 x7 ∧ pieceQ (nx7 S M).1 s8 = .iface u8 x8 ∧ OwnA w8 B s7 (nx7 R M).1.A ∧ OwnA w8 B s8 (nx7 S M).1.A ∧ Two w8 B qa ga qb gb (nx7 R M).2 (nx7 S M).2 ∧ It7 TW B w w8) := ⟨H7.out.1, hux8, keepA_own H7.out.2.1 f8.keepA, o8, H7.out.2.2.1.stepB k8 f8, H7.out.2.2.2.trans (f8.it HQ.out.2.2.1 HQ.out.2.2.2)⟩
      rw [hux8]
      clear cU o8 k8 f8 hux8
      go_wp2
      go_ret2
      unfold StepR
      rw [HS.out]
      exact ⟨_, _, rfl, ⟨s7, H8.out.1.symm, H8.out.2.2.1⟩, ⟨s8, H8.out.2.1.symm, H8.out.2.2.2.1⟩, H8.out.2.2.2.2⟩
end Go.Proofs.YtpmblhofeabppaaGreatDoor

/- What Steps' function hands over, for whatever loop body. -/
namespace Go.Proofs.YtpmblhofeabppaaGreatDoor
open Go Go.RowKit Go.Lib Go.Shelf
set_option linter.unusedVariables false
attribute [local go_sem] Oper.semAt_some

/-- Both deltas behind k steps; what step k tells. -/
def it7 (R S : List Op5) : Nat → List Op5 × List Op5
  | 0 => (R, S)
  | k + 1 => (st7 (it7 R S k).1 (it7 R S k).2).2
def out7 (R S : List Op5) (k : Nat) : Option Op5 × Option Op5 := (st7 (it7 R S k).1 (it7 R S k).2).1
theorem st_ins {R S : List Op5} (h : kind7 S = 1 ∨ kind7 S = 2) : st7 R S = ((none, some (nx7 S (left7 S)).1), R, (nx7 S (left7 S)).2) := if_pos h
theorem st_del {R S : List Op5} (h : ¬ (kind7 S = 1 ∨ kind7 S = 2)) (h2 : kind7 R = 4) : st7 R S = ((some (nx7 R (left7 R)).1, none), (nx7 R (left7 R)).2, S) := by unfold st7; rw [if_neg h, if_pos h2]
theorem st_both {R S : List Op5} (h : ¬ (kind7 S = 1 ∨ kind7 S = 2)) (h2 : ¬ kind7 R = 4) : st7 R S = ((some (nx7 R (min (left7 R) (left7 S))).1, some (nx7 S (min (left7 R) (left7 S))).1), (nx7 R (min (left7 R) (left7 S))).2, (nx7 S (min (left7 R) (left7 S))).2) := by unfold st7; rw [if_neg h, if_neg h2]
theorem Rst.step {R S : List Op5} {N T K : Nat} (hR : Rst R N T K) (hS : Rst S N T K) (hT : T ≤ 8388608) (hN : N ≤ 4194304) : Rst (st7 R S).2.1 N T K ∧ Rst (st7 R S).2.2 N T K := by
  have lR := left_range hR hT hN
  have lS := left_range hS hT hN
  by_cases h : kind7 S = 1 ∨ kind7 S = 2
  · rw [st_ins h]; exact ⟨hR, hS.next lS.1⟩
  · by_cases h2 : kind7 R = 4
    · rw [st_del h h2]; exact ⟨hR.next lR.1, hS⟩
    · rw [st_both h h2]; exact ⟨hR.next (by omega), hS.next (by omega)⟩
theorem it_rst {R S : List Op5} {N T K : Nat} (hR : Rst R N T K) (hS : Rst S N T K) (hT : T ≤ 8388608) (hN : N ≤ 4194304) : ∀ k, Rst (it7 R S k).1 N T K ∧ Rst (it7 R S k).2 N T K
  | 0 => ⟨hR, hS⟩
  | k + 1 => by
    obtain ⟨h1, h2⟩ := it_rst hR hS hT hN k
    exact h1.step h2 hT hN
theorem nx_len {R : List Op5} (n : Int) : (nx7 R n).2.length ≤ R.length ∧ (R ≠ [] → left7 R ≤ n → (nx7 R n).2.length + 1 = R.length) := by
  cases R with
  | nil => exact ⟨Nat.le_refl _, fun h => absurd rfl h⟩
  | cons x r =>
    by_cases h : len5 x ≤ n
    · rw [nx_all h]; exact ⟨by simp, fun _ _ => by simp⟩
    · rw [nx_part h]; exact ⟨by simp, fun _ h2 => absurd h2 h⟩
theorem kind_ne {S : List Op5} (h : kind7 S ≠ 3) : S ≠ [] := fun e => h (by rw [e]; rfl)
theorem st_len {R S : List Op5} {N T K : Nat} (hR : Rst R N T K) (hS : Rst S N T K) (hT : T ≤ 8388608) (hN : N ≤ 4194304) (h0 : ¬ (R = [] ∧ S = [])) : (st7 R S).2.1.length + (st7 R S).2.2.length < R.length + S.length := by
  have lR := left_range hR hT hN
  have lS := left_range hS hT hN
  by_cases h : kind7 S = 1 ∨ kind7 S = 2
  · rw [st_ins h]
    have := (nx_len (R := S) (left7 S)).2 (kind_ne (by omega)) (Int.le_refl _)
    show R.length + (nx7 S (left7 S)).2.length < _
    omega
  · by_cases h2 : kind7 R = 4
    · rw [st_del h h2]
      have := (nx_len (R := R) (left7 R)).2 (kind_ne (by omega)) (Int.le_refl _)
      show (nx7 R (left7 R)).2.length + S.length < _
      omega
    · rw [st_both h h2]
      obtain ⟨a1, a2⟩ := nx_len (R := R) (min (left7 R) (left7 S))
      obtain ⟨b1, b2⟩ := nx_len (R := S) (min (left7 R) (left7 S))
      show (nx7 R (min (left7 R) (left7 S))).2.length + (nx7 S (min (left7 R) (left7 S))).2.length < _
      by_cases e1 : R = []
      · have e2 : S ≠ [] := fun e => h0 ⟨e1, e⟩
        have : left7 R = 1099511627776 := by rw [e1]; rfl
        have := b2 e2 (by omega)
        omega
      · by_cases e2 : S = []
        · have : left7 S = 1099511627776 := by rw [e2]; rfl
          have := a2 e1 (by omega)
          omega
        · by_cases hl : left7 R ≤ left7 S
          · have := a2 e1 (by omega)
            omega
          · have := b2 e2 (by omega)
            omega
/-- The steps up to number k are told, and neither is done ahead of it. -/
def Run7 (R S : List Op5) (k : Nat) : Prop := ∀ j, j < k → ¬ ((it7 R S j).1 = [] ∧ (it7 R S j).2 = [])
theorem run_len {R S : List Op5} {N T K : Nat} (hR : Rst R N T K) (hS : Rst S N T K) (hT : T ≤ 8388608) (hN : N ≤ 4194304) : ∀ k, Run7 R S k → (it7 R S k).1.length + (it7 R S k).2.length + k ≤ R.length + S.length
  | 0, _ => by show R.length + S.length + 0 ≤ _; omega
  | k + 1, h => by
    have ih := run_len hR hS hT hN k fun j hj => h j (by omega)
    obtain ⟨h1, h2⟩ := it_rst hR hS hT hN k
    have := st_len h1 h2 hT hN (h k (by omega))
    show (st7 (it7 R S k).1 (it7 R S k).2).2.1.length + (st7 (it7 R S k).1 (it7 R S k).2).2.2.length + (k + 1) ≤ _
    omega
theorem steps7_call {B1 B2 C1 C2 : Nat} (v v' : Value) (E F : List Op5) (w : World) (h : DelV w B1 B2 v E) (h' : DelV w C1 C2 v' F) :
    Calls Tryz.prog 19 #[v, v'] w fun r w' => ∃ x y, r = .returned (.func (.func 34) #[] #[.pointer (some ⟨x, 0, none⟩), .pointer (some ⟨y, 0, none⟩)]) ∧ BoxD w' x B1 B2 E ∧ BoxD w' y C1 C2 F ∧ Below w.heap.size w w' := by
  have bA : Below w.heap.size w ((w.alloc (.cells #[v] 25)).alloc (.cells #[v'] 25)) := ((Below.refl _ _).alloc (Nat.le_refl _) _).alloc (by simp) _
  have HD : Hid (DelV ((w.alloc (.cells #[v] 25)).alloc (.cells #[v'] 25)) B1 B2 v E ∧ DelV ((w.alloc (.cells #[v] 25)).alloc (.cells #[v'] 25)) C1 C2 v' F) := ⟨h.below bA, h'.below bA⟩
  obtain ⟨q, pv, PL, rfl, _⟩ := h
  obtain ⟨q', pv', PL', rfl, _⟩ := h'
  go_enter Tryz.func19, Tryz.ntmps19
  go_wp2
  go_ret
  exact ⟨_, _, rfl, ⟨_, by simp, HD.out.1⟩, ⟨_, by simp, HD.out.2⟩, bA⟩

/-- Two pieces, or nil. -/
abbrev encS (x : Value × Value) : Array Value := #[x.1, x.2]
def GS (E F : List Op5) (B0 : Nat) (pre : List (Value × Value)) (x : Value × Value) (W : World) : Prop :=
  ¬ ((it7 E F pre.length).1 = [] ∧ (it7 E F pre.length).2 = []) ∧ Run7 E F pre.length ∧ PcV W B0 x.1 (out7 E F pre.length).1 ∧ PcV W B0 x.2 (out7 E F pre.length).2
/-- What a round keeps: pieces, walkers, lists. -/
structure KS7 (A A' : World) : Prop where
  size : A.heap.size ≤ A'.heap.size
  kept : ∀ (k : Nat) (cs : Array Value) (t : TypeId) (fz : Nat × Nat), A.heap[k]? = some (.cells cs t fz) → (TW t ∨ t = 45) → A'.heap[k]? = some (.cells cs t fz)
theorem KS7.bk {B : Nat} {A A' C C' : World} (k1 : Bk7 B A A') (h : KS7 A' C) (k2 : Bk7 B C C') : KS7 A C' :=
  ⟨Nat.le_trans k1.size (Nat.le_trans h.size k2.size), fun k cs t fz hk ht => k2.kept k _ (h.kept k cs t fz (k1.kept k _ hk (.inr rfl)) ht) (.inr rfl)⟩
theorem PcV.bk {B B' : Nat} {v : Value} {o : Option Op5} {A A' : World} (h : PcV A B v o) (k : Bk7 B' A A') : PcV A' B v o := h.keep fun j cur hj => by rw [k.kept j _ hj (.inr rfl), hj]
theorem GS.bk {E F : List Op5} {B0 B : Nat} {pre : List (Value × Value)} {x : Value × Value} {A A' : World} (h : GS E F B0 pre x A) (k : Bk7 B A A') : GS E F B0 pre x A' :=
  ⟨h.1, h.2.1, h.2.2.1.bk k, h.2.2.2.bk k⟩
theorem KS7.two {A A' : World} {B qa ga qb gb : Nat} {R S : List Op5} (k : KS7 A A') (h : Two A B qa ga qb gb R S) : Two A' B qa ga qb gb R S := by
  have hk : KeepA A A' := fun j cur hj => by rw [k.kept j _ _ _ hj (.inr rfl), hj]
  have one : ∀ {q g : Nat} {R : List Op5}, WkV A B q g R → WkV A' B q g R := fun {q g R} h => by
    obtain ⟨h1, h2, h3, p, cap, h4, h5, h6⟩ := h
    refine ⟨h1, h2, h3, p, cap, k.kept _ _ _ _ h4 (.inl (.inl rfl)), h5, fun h0 => ?_⟩
    obtain ⟨off, cs, e, hgo, hr⟩ := h6 h0
    refine ⟨off, cs, e, k.kept _ _ _ _ hgo (.inl (.inr rfl)), fun j x hx => ?_⟩
    obtain ⟨s, a1, a2⟩ := hr j x hx
    exact ⟨s, a1, keepA_own a2 hk⟩
  exact ⟨one h.a, one h.b, h.n1, h.n2⟩
theorem PcV.low {w : World} {B B' : Nat} {v : Value} {o : Option Op5} (h : PcV w B v o) (hb : B' ≤ B) : PcV w B' v o := by
  cases o with
  | none => exact h
  | some e => obtain ⟨s, h1, h2⟩ := h; exact ⟨s, h1, own_weaken h2 hb⟩
theorem WkV.low {w : World} {B B' q g : Nat} {R : List Op5} (h : WkV w B q g R) (hb : B' ≤ B) : WkV w B' q g R := by
  obtain ⟨h1, h2, h3, p, cap, h4, h5, h6⟩ := h
  refine ⟨h1, by omega, by omega, p, cap, h4, h5, fun h0 => ?_⟩
  obtain ⟨off, cs, e, hgo, hr⟩ := h6 h0
  refine ⟨off, cs, e, hgo, fun j x hx => ?_⟩
  obtain ⟨s, a1, a2⟩ := hr j x hx
  exact ⟨s, a1, own_weaken a2 hb⟩
theorem WkV.nilG {w : World} {B q g g' : Nat} (h : WkV w B q g []) (h1 : q ≠ g') (h2 : B ≤ g') : WkV w B q g' [] := by
  obtain ⟨_, h3, _, p, cap, h4, h5, _⟩ := h
  exact ⟨h1, h3, h2, p, cap, h4, h5, fun h => absurd rfl h⟩
/-- Two Walkers, laid one behind the other. -/
theorem two_of {W1 W2 : World} {B M qa ga qb gb : Nat} {R S : List Op5} (ka : WkV W1 M qa ga R) (la : R ≠ [] → ga < W1.heap.size) (hM : B ≤ M) (kb : WkV W2 W1.heap.size qb gb S) (b : Below W1.heap.size W1 W2) : ∃ ga', Two W2 B qa ga' qb gb R S := by
  have k2 := (ka.below b).low hM
  have hq := ka.lt
  have l1 := kb.lq
  have l2 := kb.lg
  have hB : B ≤ W1.heap.size := by have := ka.lq; omega
  by_cases h : R = []
  · subst h
    exact ⟨qa + qb + gb + 1, k2.nilG (by omega) (by have := k2.lq; omega), kb.low hB, ⟨by omega, by omega⟩, ⟨by omega, by omega⟩⟩
  · have := la h
    exact ⟨ga, k2, kb.low hB, ⟨by omega, by omega⟩, ⟨by omega, by omega⟩⟩
theorem Two.swap {w : World} {B qa ga qb gb : Nat} {R S : List Op5} (h : Two w B qa ga qb gb R S) : Two w B qb gb qa ga S R := ⟨h.b, h.a, ⟨Ne.symm h.n1.1, Ne.symm h.n2.1⟩, ⟨Ne.symm h.n1.2, Ne.symm h.n2.2⟩⟩
/-- How many pieces a Walker has before it. -/
def wlen (w : World) (q : Nat) : Nat := match w.cell? ⟨q, 0, none⟩ with | some (.slice _ n _) => n | _ => 0
theorem wlen_of {w : World} {B q g : Nat} {R : List Op5} (h : WkV w B q g R) : wlen w q = R.length := by
  obtain ⟨p, cap, c0, _⟩ := h.read0
  unfold wlen
  rw [c0]
abbrev NewR (W w' : World) (E : List Op5) (r : Ending) : Prop := ∃ q g, r = .returned (.pointer (some ⟨q, 0, none⟩)) ∧ WkV w' W.heap.size q g E ∧ (E ≠ [] → g < w'.heap.size) ∧ Below W.heap.size W w'
set_option maxHeartbeats 4000000 in
set_option maxRecDepth 100000 in
theorem steps7_seq (E F : List Op5) (w0 : World) (x y B1 B2 C1 C2 : Nat) {N T K : Nat} (hx : BoxD w0 x B1 B2 E) (hy : BoxD w0 y C1 C2 F) (hE : Rst E N T K) (hF : Rst F N T K) (hT : T ≤ 8388608) (hK : K ≤ 2097152) (hN : N ≤ 4194304) (n : Nat) (hn : 2 ≤ n) :
    SeqG Fence.wide n Tryz.prog 34 #[.pointer (some ⟨x, 0, none⟩), .pointer (some ⟨y, 0, none⟩)] encS TW (GS E F w0.heap.size) (fun _ _ => KS7) (fun xs => Run7 E F xs.length ∧ (it7 E F xs.length).1 = [] ∧ (it7 E F xs.length).2 = []) w0 := fun l J Jx W hW hJ hJx hY h0 => by
  obtain ⟨v, hx, hd⟩ := hx
  obtain ⟨v', hy, hd'⟩ := hy
  have c0 : W.cell? ⟨x, 0, none⟩ = some v := (hW.cell (lt_of_cell hx)).trans hx
  have c1 : W.cell? ⟨y, 0, none⟩ = some v' := (hW.cell (lt_of_cell hy)).trans hy
  have hA1 : ∀ o ∈ E, o.A.length ≤ 2097152 := fun o ho => Nat.le_trans (hE.attr o ho) hK
  have hA2 : ∀ o ∈ F, o.A.length ≤ 2097152 := fun o ho => Nat.le_trans (hF.attr o ho) hK
  have cA : ∀ W', Below W.heap.size W W' → Calls Tryz.prog 13 #[v] W' fun r w' => NewR W' w' E r ∧ Below W.heap.size W w' := fun W' h => (newW_any v E W' ((hd.below hW).below h) hE.good hA1 (Nat.le_trans hE.len hN)).mono fun r w' hh => ⟨hh, by obtain ⟨_, _, _, _, _, b⟩ := hh; exact h.trans (b.mono h.size)⟩
  have cB : ∀ W', Below W.heap.size W W' → Calls Tryz.prog 13 #[v'] W' fun r w' => NewR W' w' F r ∧ Below W.heap.size W w' := fun W' h => (newW_any v' F W' ((hd'.below hW).below h) hF.good hA2 (Nat.le_trans hF.len hN)).mono fun r w' hh => ⟨hh, by obtain ⟨_, _, _, _, _, b⟩ := hh; exact h.trans (b.mono h.size)⟩
  have hz0 : w0.heap.size ≤ W.heap.size := hW.size
  have HJ : Hid (∀ p W1 W2, J p W1 → It7 TW W.heap.size W1 W2 → J p W2) := hJ
  have HY : Hid (∀ pre x W1, J pre W1 → GS E F w0.heap.size pre x W1 → YieldAt Fence.wide (n - 1) Tryz.prog l (encS x) W1 fun e W' =>
      (e = .returned (.bool true) ∧ J (pre ++ [x]) W' ∧ KS7 W1 W') ∨ (e = .returned (.bool false) ∧ Jx (pre ++ [x]) W')) := hY
  have HR : Hid (Rst E N T K ∧ Rst F N T K) := ⟨hE, hF⟩
  have mk : Hid (∀ W', Below W.heap.size W W' → W'.cell? ⟨x, 0, none⟩ = some v ∧ W'.cell? ⟨y, 0, none⟩ = some v') := fun W' h => ⟨(h.cell (lt_of_cell c0)).trans c0, (h.cell (lt_of_cell c1)).trans c1⟩
  have hN2 : Hid (2 ≤ n) := hn
  have HH0 : Hid (J [] W) := h0
  clear hY hJ hJx hx hy hd hd' hA1 hA2 hE hF hW h0 hn
  refine callsIn_of_wp Tryz.func34 rfl trivial ?_ rfl
  simp only [Tryz.ntmps34, List.size_toArray, List.length_cons, List.length_nil, Nat.reduceAdd, Nat.reduceSub, Array.replicate_succ, Array.replicate_zero, List.push_toArray, List.append_toArray, List.nil_append, List.cons_append]
  have m0 := mk.out W (Below.refl _ _)
  rw [wpIn_wide]
  go_upto_region 0 with fail
  go_cut [4, 5] (fun x4 x5 wx => ∃ qa ga qb gb, x4 = .pointer (some ⟨qa, 0, none⟩) ∧ x5 = .pointer (some ⟨qb, 0, none⟩) ∧ Two wx W.heap.size qa ga qb gb E F ∧ Below W.heap.size W wx)
  case first =>
    go_region_held3 (fun w' => w'.cell? ⟨x, 0, none⟩ = some v ∧ w'.cell? ⟨y, 0, none⟩ = some v' ∧ Below W.heap.size W w')
      (exact ⟨by first | (with_reducible assumption) | exact m0.1, by first | (with_reducible assumption) | exact m0.2, by first | (with_reducible assumption) | exact (Below.refl _ _).drew⟩)
      (first
        | (go_at_call_of 13 v; refine (cA _ ?_).mono ?_; (· first | (with_reducible assumption) | (apply And.right; apply And.right; with_reducible assumption)); rintro r wA ⟨⟨qa, ga, rfl, ka, la, bA⟩, dA⟩; obtain ⟨mA1, mA2⟩ := mk.out _ dA)
        | (go_at_call_of 13 v'; refine (cB _ ?_).mono ?_; (· first | (with_reducible assumption) | (apply And.right; apply And.right; with_reducible assumption)); rintro r wB ⟨⟨qb, gb, rfl, kb, lb, bB⟩, dB⟩; obtain ⟨mB1, mB2⟩ := mk.out _ dB))
    all_goals (try go_wp2)
    all_goals go_meet
    · obtain ⟨ga', h⟩ := two_of ka la (Nat.le_refl _) kb bB
      exact ⟨qa, ga', qb, gb, rfl, rfl, h, dB⟩
  case rest =>
    obtain ⟨qa, ga, qb, gb, rfl, rfl, h2, b2⟩ := hcut
    have hJ2 := HJ.out _ _ _ HH0.out (It7.of_below b2)
    have hzc : W.heap.size ≤ wc.heap.size := b2.size
    have H2 : Hid (Two wc W.heap.size qa ga qb gb E F) := h2
    clear cA cB m0 h2 b2 c0 c1 mk HH0
    go_wp2_with fail
    refine (wpIn_wide (n := n)).1 ?_
    gi_loopw [6, 7] (fun _ _ wr => ∃ (k : Nat) (xs : List (Value × Value)), xs.length = k ∧ J xs wr ∧ W.heap.size ≤ wr.heap.size ∧ Hid (Run7 E F k) ∧ Hid (Two wr W.heap.size qa ga qb gb (it7 E F k).1 (it7 E F k).2)) (fun _ _ wr => wlen wr qa + wlen wr qb)
    case atStart => exact ⟨0, [], rfl, hJ2, hzc, fun j hj => by omega, H2⟩
    case round =>
      clear hJ2 H2 hzc
      obtain ⟨k, xs, hk, hJk, hsz, HRun, HTwo⟩ := hrel
      have hRk := it_rst HR.out.1 HR.out.2 hT hN k
      have cDa := doneW_any wr HTwo.out.a
      have cDb := fun W' (h : Below wr.heap.size wr W') => doneW_any W' (HTwo.out.b.below h)
      have cSt := fun W' (h : Two W' W.heap.size qa ga qb gb (it7 E F k).1 (it7 E F k).2) => step_any W' h hRk.1 hRk.2 hT hK hN
      have HRk : Hid _ := hRk
      clear hRk
      by_cases hR : (it7 E F k).1 = []
      · rw [decide_eq_true hR] at cDa
        by_cases hS : (it7 E F k).2 = []
        · simp only [decide_eq_true hS] at cDb
          gi_wp2
          refine ⟨trivial, (fun _ => Nat.le_trans (by decide) hN2.out), (callsIn_wide.2 cDa).mono ?_⟩
          rintro r w3 ⟨rfl, hb3⟩
          have cD2 := cDb w3 hb3
          have hJ3 := HJ.out _ _ _ hJk (It7.of_below hb3)
          gi_wp2
          refine ⟨trivial, (fun _ => Nat.le_trans (by decide) hN2.out), (callsIn_wide.2 cD2).mono ?_⟩
          rintro r w4 ⟨rfl, hb4⟩
          have hJ4 := HJ.out _ _ _ hJ3 (It7.of_below hb4)
          have HE : Hid (Run7 E F xs.length ∧ (it7 E F xs.length).1 = [] ∧ (it7 E F xs.length).2 = []) := by rw [hk]; exact ⟨HRun.out, hR, hS⟩
          clear cDa cDb cSt cD2 hJ3 hJk hb3 hb4 hR hS hk
          gi_wp2
          go_end0
          exact ⟨⟨_, rfl⟩, .inl ⟨xs, HE.out, hJ4⟩⟩
        · simp only [decide_eq_false hS] at cDb
          gi_wp2
          refine ⟨trivial, (fun _ => Nat.le_trans (by decide) hN2.out), (callsIn_wide.2 cDa).mono ?_⟩
          rintro r w3 ⟨rfl, hb3⟩
          have cD2 := cDb w3 hb3
          gi_wp2
          refine ⟨trivial, (fun _ => Nat.le_trans (by decide) hN2.out), (callsIn_wide.2 cD2).mono ?_⟩
          rintro r w4 ⟨rfl, hb4⟩
          have b4 := hb3.trans (hb4.mono hb3.size)
          have HNE : Hid (¬ ((it7 E F k).1 = [] ∧ (it7 E F k).2 = [])) := fun h => hS h.2
          clear cDa cDb cD2 hb3 hb4 hR hS
          have H4 : Hid (Two w4 W.heap.size qa ga qb gb (it7 E F k).1 (it7 E F k).2 ∧ Below wr.heap.size wr w4) := ⟨HTwo.out.below b4, b4⟩
          have cS := cSt w4 H4.out.1
          clear cSt b4
          gi_wp2
          refine ⟨trivial, (fun _ => Nat.le_trans (by decide) hN2.out), (callsIn_wide.2 cS).mono ?_⟩
          rintro r w5 ⟨p, q, rfl, hp, hq, h5, i5⟩
          have hJ5 := HJ.out _ _ _ (HJ.out _ _ _ hJk (It7.of_below H4.out.2)) i5
          have hz5 : W.heap.size ≤ w5.heap.size := Nat.le_trans hsz (Nat.le_trans H4.out.2.size i5.size)
          have hG : GS E F w0.heap.size xs (p, q) w5 := by
            unfold GS
            rw [hk]
            exact ⟨HNE.out, HRun.out, hp.low hz0, hq.low hz0⟩
          have hYk := HY.out xs (p, q) w5 hJ5 hG
          have hlen := st_len HRk.out.1 HRk.out.2 hT hN HNE.out
          have H5 : Hid (Two w5 W.heap.size qa ga qb gb (it7 E F (k + 1)).1 (it7 E F (k + 1)).2 ∧ Run7 E F (k + 1) ∧ wlen wr qa + wlen wr qb = (it7 E F k).1.length + (it7 E F k).2.length ∧ (it7 E F (k + 1)).1.length + (it7 E F (k + 1)).2.length < (it7 E F k).1.length + (it7 E F k).2.length ∧ xs.length = k ∧ W.heap.size ≤ w5.heap.size) :=
            ⟨h5, fun j hj => by
              rcases Nat.lt_or_ge j k with h | h
              · exact HRun.out j h
              · have : j = k := by omega
                subst this; exact HNE.out, by rw [wlen_of HTwo.out.a, wlen_of HTwo.out.b], hlen, hk, hz5⟩
          obtain ⟨fn, tm, asg, bo, hy, hR⟩ := hYk
          clear cS hp hq h5 i5 hJk hJ5 hG hk hsz hz5 HNE hlen H4
          gi_wp2
          refine ⟨(fun _ => Nat.le_trans (by decide) hN2.out), hR.mono ?_⟩
          rintro e' W3 (⟨rfl, hJ3, hk3⟩ | ⟨rfl, hJx3⟩)
          · have H3 : Hid (Two W3 W.heap.size qa ga qb gb (it7 E F (k + 1)).1 (it7 E F (k + 1)).2 ∧ W.heap.size ≤ W3.heap.size) := ⟨hk3.two H5.out.1, Nat.le_trans H5.out.2.2.2.2.2 hk3.size⟩
            clear hk3
            gi_wp2
            go_roundw
            case rel => exact ⟨k + 1, xs ++ [(p, q)], by rw [List.length_append, H5.out.2.2.2.2.1]; rfl, hJ3, H3.out.2, H5.out.2.1, H3.out.1⟩
            case measure => rw [wlen_of H3.out.1.a, wlen_of H3.out.1.b, H5.out.2.2.1]; exact H5.out.2.2.2.1
          · gi_wp2
            refine bodyPost_ret (results_none rfl _ _ _) rfl ?_
            exact ⟨⟨_, rfl⟩, .inr ⟨_, hJx3⟩⟩
      · rw [decide_eq_false hR] at cDa
        gi_wp2
        refine ⟨trivial, (fun _ => Nat.le_trans (by decide) hN2.out), (callsIn_wide.2 cDa).mono ?_⟩
        rintro r w4 ⟨rfl, b4⟩
        have HNE : Hid (¬ ((it7 E F k).1 = [] ∧ (it7 E F k).2 = [])) := fun h => hR h.1
        clear cDa cDb hR
        have H4 : Hid (Two w4 W.heap.size qa ga qb gb (it7 E F k).1 (it7 E F k).2 ∧ Below wr.heap.size wr w4) := ⟨HTwo.out.below b4, b4⟩
        have cS := cSt w4 H4.out.1
        clear cSt b4
        gi_wp2
        refine ⟨trivial, ?_⟩
        gi_wp2
        refine ⟨trivial, (fun _ => Nat.le_trans (by decide) hN2.out), (callsIn_wide.2 cS).mono ?_⟩
        rintro r w5 ⟨p, q, rfl, hp, hq, h5, i5⟩
        have hJ5 := HJ.out _ _ _ (HJ.out _ _ _ hJk (It7.of_below H4.out.2)) i5
        have hz5 : W.heap.size ≤ w5.heap.size := Nat.le_trans hsz (Nat.le_trans H4.out.2.size i5.size)
        have hG : GS E F w0.heap.size xs (p, q) w5 := by
          unfold GS
          rw [hk]
          exact ⟨HNE.out, HRun.out, hp.low hz0, hq.low hz0⟩
        have hYk := HY.out xs (p, q) w5 hJ5 hG
        have hlen := st_len HRk.out.1 HRk.out.2 hT hN HNE.out
        have H5 : Hid (Two w5 W.heap.size qa ga qb gb (it7 E F (k + 1)).1 (it7 E F (k + 1)).2 ∧ Run7 E F (k + 1) ∧ wlen wr qa + wlen wr qb = (it7 E F k).1.length + (it7 E F k).2.length ∧ (it7 E F (k + 1)).1.length + (it7 E F (k + 1)).2.length < (it7 E F k).1.length + (it7 E F k).2.length ∧ xs.length = k ∧ W.heap.size ≤ w5.heap.size) :=
          ⟨h5, fun j hj => by
            rcases Nat.lt_or_ge j k with h | h
            · exact HRun.out j h
            · have : j = k := by omega
              subst this; exact HNE.out, by rw [wlen_of HTwo.out.a, wlen_of HTwo.out.b], hlen, hk, hz5⟩
        obtain ⟨fn, tm, asg, bo, hy, hR⟩ := hYk
        clear cS hp hq h5 i5 hJk hJ5 hG hk hsz hz5 HNE hlen H4
        gi_wp2
        refine ⟨(fun _ => Nat.le_trans (by decide) hN2.out), hR.mono ?_⟩
        rintro e' W3 (⟨rfl, hJ3, hk3⟩ | ⟨rfl, hJx3⟩)
        · have H3 : Hid (Two W3 W.heap.size qa ga qb gb (it7 E F (k + 1)).1 (it7 E F (k + 1)).2 ∧ W.heap.size ≤ W3.heap.size) := ⟨hk3.two H5.out.1, Nat.le_trans H5.out.2.2.2.2.2 hk3.size⟩
          clear hk3
          gi_wp2
          go_roundw
          case rel => exact ⟨k + 1, xs ++ [(p, q)], by rw [List.length_append, H5.out.2.2.2.2.1]; rfl, hJ3, H3.out.2, H5.out.2.1, H3.out.1⟩
          case measure => rw [wlen_of H3.out.1.a, wlen_of H3.out.1.b, H5.out.2.2.1]; exact H5.out.2.2.2.1
        · gi_wp2
          refine bodyPost_ret (results_none rfl _ _ _) rfl ?_
          exact ⟨⟨_, rfl⟩, .inr ⟨_, hJx3⟩⟩
end Go.Proofs.YtpmblhofeabppaaGreatDoor

/- A fixed delta lives. -/
namespace Go.Proofs.YtpmblhofeabppaaGreatDoor
open Go Go.RowKit Go.Lib Go.Shelf
set_option linter.unusedVariables false
attribute [local go_sem] Oper.semAt_some

def liveW : List Op5 := [txtO ⟨#[97, 98, 99]⟩, delO 2]
theorem liveW_ok : ofE 0 0 liveW = (0, 0) := by kernel_rfl
theorem liveW_canon : canonL liveW = liveW := by kernel_rfl
theorem liveW_nil : ∀ o ∈ liveW, o.A = [] := by
  intro o ho
  simp only [liveW, List.mem_cons, List.not_mem_nil, or_false] at ho
  rcases ho with rfl | rfl <;> rfl
theorem liveW_fit : FitL liveW := by
  intro o ho
  refine fit_nil ?_ ?_ (liveW_nil o ho)
  all_goals
    simp only [liveW, List.mem_cons, List.not_mem_nil, or_false] at ho
    rcases ho with rfl | rfl <;> decide
theorem liveW_good : ∀ o ∈ liveW, opE o = 0 := by
  intro o ho
  simp only [liveW, List.mem_cons, List.not_mem_nil, or_false] at ho
  rcases ho with rfl | rfl <;> kernel_rfl
theorem liveW_rst : Rst liveW 2 3 0 := ⟨liveW_good, fun o ho => (liveW_fit o ho).fitA, by decide, fun o ho => by rw [liveW_nil o ho]; exact Nat.le_refl _, by decide, by kernel_rfl, by kernel_rfl, by decide, by decide⟩
theorem liveW_left : left7 liveW = 3 := by kernel_rfl
theorem liveW_kind : kind7 liveW = 1 := rfl
theorem liveW_len : len5 (nx7 liveW 2).1 = 2 := by kernel_rfl
theorem liveW_left2 : left7 (nx7 liveW 2).2 = 1 := by kernel_rfl
theorem eqf1 (x : Nat) (W : World) : (binOp .eql 29 (.func (.func 23) #[] #[.pointer (some ⟨x, 0, none⟩)]) .nilFunc).run Tryz.prog W = .ok (.bool false) W := by kernel_rfl
theorem eqf2 (x y : Nat) (W : World) : (binOp .eql 58 (.func (.func 34) #[] #[.pointer (some ⟨x, 0, none⟩), .pointer (some ⟨y, 0, none⟩)]) .nilFunc).run Tryz.prog W = .ok (.bool false) W := by kernel_rfl
theorem tr_below {T : TypeId → Prop} {n B : Nat} {w A A' : World} (h : Below n w A) (hn : n ≤ w.heap.size) (hB : n ≤ B) (k : Tr7 T B A A') : Below n w A' :=
  ⟨k.os.trans h.os, k.tape.trans h.tape, k.output.trans h.output, Nat.le_trans h.size k.size, fun j hj => by
    have hl : j < A.heap.size := by have := h.size; omega
    rw [k.kept j A.heap[j] (Array.getElem?_eq_getElem hl) (.inl (by omega)), ← h.block j hj, Array.getElem?_eq_getElem hl]⟩
theorem KZ.set {pre : List PZ} {x : PZ} {W : World} {N : Nat} {v : Value} (h : W.heap[N]? = some (.cells #[v] 3 (0, 0))) (u : Value) : KZ pre x W (W.setCell ⟨N, 0, none⟩ u) :=
  ⟨by simp [World.setCell], fun k cs hk => (Below.heap_setCell _ _ _ _ (fun e => by subst e; rw [h] at hk; cases hk)).trans hk, fun k cs hk _ => (Below.heap_setCell _ _ _ _ (fun e => by subst e; rw [h] at hk; cases hk)).trans hk⟩
theorem leave1 {fn : Func} (n0 : World) (W : World) (D : Nat) (tmps : Array Value) (hr : ∀ W', (results fn tmps).run Tryz.prog W' = .ok (.bool true) W')
    (hK : W.heap[D]? = some (.deferred (some []))) (h1 : n0.heap.size ≤ D) (hb : Below n0.heap.size n0 W) :
    bodyPostM Fence.wide 5 Tryz.prog fn (fun e w' => e = .returned (.bool true) ∧ Below n0.heap.size n0 w') Exit.ret
      { tmps := tmps, defers := [{ target := .collected D, args := #[] }] } W := by
  refine ⟨by simp, .inl ⟨_, _, rfl, run_takeDeferred hK, ?_⟩⟩
  refine ⟨.bool true, hr _, rfl, ?_⟩
  exact hb.trans (belowK_b (w := n0) (Nat.le_refl _) _ D _ _ h1 hK rfl rfl)
set_option maxHeartbeats 4000000 in
set_option maxRecDepth 100000 in
theorem lives7_any {I : List Nat} {a : Nat → Addr} (w : World) (hI : ∀ i ∈ IxO, i ∈ I) (hS : Std I a w) :
    Calls Tryz.prog 4 #[] w fun r w' => r = .returned (.bool true) ∧ Below w.heap.size w w' := by
  have CO : Hid (∀ W b, Below w.heap.size w W → W.heap[b]? = some (.cells (cellsO (liveW.map ovN)).toArray 40 (0, 0)) → Calls Tryz.prog 12 #[.slice (some ⟨b, 0, none⟩) 2 2] W fun r w' => ∃ dv, r = .returned (.tuple #[dv, .int .i64 0, .nilIface]) ∧ (∃ q, dv = .pointer (some ⟨q, 0, none⟩)) ∧ DelV w' W.heap.size W.heap.size dv liveW ∧ Below W.heap.size W w') := fun W b hW hb => by
    refine (buildOf_any _ liveW W hI (hS.below hW) (re_blk hb liveW_nil) liveW_fit (by decide) (by decide)).mono ?_
    rintro r w' ⟨dv, h1, h2, _, h4⟩
    rw [liveW_ok] at h1 h2
    rw [liveW_canon] at h2
    have h5 := h2 rfl
    obtain ⟨q, pv, PL, e, _⟩ := id h5
    exact ⟨dv, h1, ⟨q, e⟩, h5, h4⟩
  have CR : Hid (∀ W B q g, Below w.heap.size w W → WkV W B q g (nx7 liveW 2).2 → Calls Tryz.prog 18 #[.pointer (some ⟨q, 0, none⟩)] W fun r w' => ∃ dv, r = .returned dv ∧ (∃ q, dv = .pointer (some ⟨q, 0, none⟩)) ∧ DelV w' W.heap.size W.heap.size dv (nx7 liveW 2).2 ∧ Below W.heap.size W w') := fun W B q g hW hw => by
    refine (restW_any W hI (hS.below hW) hw (liveW_rst.next (n := 2) (by decide)) (by decide) (by decide) (by decide)).mono ?_
    rintro r w' ⟨dv, h1, h2, h3⟩
    obtain ⟨q, pv, PL, e, _⟩ := id h2
    exact ⟨dv, h1, ⟨q, e⟩, h2, h3⟩
  have b1 : Below w.heap.size w (w.alloc (.cells (cellsO (liveW.map ovN)).toArray 40)) := (Below.refl _ _).alloc (Nat.le_refl _) _
  have cO := CO.out _ _ b1 (heap_alloc_new w _)
  clear hS hI CO
  refine (callsIn_wide (n := 5)).1 ?_
  refine callsIn_of_wp_marks Tryz.func4 rfl trivial ?_ rfl
  simp only [Tryz.ntmps4, List.size_toArray, List.length_nil, Nat.reduceSub, Array.replicate_succ, Array.replicate_zero, List.push_toArray, List.append_toArray, List.nil_append, List.cons_append]
  rw [wpIn_wide]
  go_wp2_with fail
  refine cO.mono ?_; rintro r w2 ⟨dv, rfl, ⟨qd, rfl⟩, hd, h2⟩
  have b2 := b1.trans (h2.mono b1.size)
  have HD : Hid (∃ B1 B2, DelV w2 B1 B2 (.pointer (some ⟨qd, 0, none⟩)) liveW) := ⟨_, _, hd⟩
  have cN := newW_any _ liveW w2 hd liveW_good (fun o ho => by rw [liveW_nil o ho]; exact Nat.zero_le _) (by decide)
  clear cO b1 h2 hd
  go_wp2_with fail
  refine cN.mono ?_; rintro r w3 ⟨q, g, rfl, hw3, -, h3⟩
  have b3 := b2.trans (h3.mono b2.size)
  have H3 : Hid (WkV w3 w2.heap.size q g liveW ∧ Below w2.heap.size w2 w3) := ⟨hw3, h3⟩
  have cK := kind7_any w3 hw3 liveW_good
  rw [liveW_kind] at cK
  clear cN hw3 h3
  go_wp2_with fail
  refine cK.mono ?_; rintro r w4 ⟨rfl, h4⟩
  have b4 := b3.trans (h4.mono b3.size)
  have H4 : Hid (WkV w4 w2.heap.size q g liveW ∧ Below w2.heap.size w2 w4) := ⟨H3.out.1.below h4, H3.out.2.trans (h4.mono H3.out.2.size)⟩
  have cL := left7_any w4 H4.out.1 liveW_good
  rw [liveW_left] at cL
  clear cK h4 H3
  go_wp2_with fail
  refine cL.mono ?_; rintro r w5 ⟨rfl, h5⟩
  have b5 := b4.trans (h5.mono b4.size)
  have H5 : Hid (WkV w5 w2.heap.size q g liveW ∧ Below w2.heap.size w2 w5) := ⟨H4.out.1.below h5, H4.out.2.trans (h5.mono H4.out.2.size)⟩
  have cD := doneW_any w5 H5.out.1
  rw [decide_eq_false (show ¬ liveW = [] by decide)] at cD
  clear cL h5 H4
  go_wp2_with fail
  refine cD.mono ?_; rintro r w6 ⟨rfl, h6⟩
  have b6 := b5.trans (h6.mono b5.size)
  have H6 : Hid (WkV w6 w2.heap.size q g liveW ∧ Below w2.heap.size w2 w6) := ⟨H5.out.1.below h6, H5.out.2.trans (h6.mono H5.out.2.size)⟩
  have cX := nextW_any 2 w6 H6.out.1 liveW_rst (by decide) (by decide) (by decide) (by decide)
  clear cD h6 H5
  go_wp2_with fail
  refine cX.mono ?_; rintro r w7 ⟨s, rfl, o7, k7, f7⟩
  have h67 : Below w2.heap.size w6 w7 := f7.below H6.out.1.lq H6.out.1.lg H6.out.2.size
  have b7 := b6.trans (h67.mono b2.size)
  have H7 : Hid (WkV w7 w2.heap.size q g (nx7 liveW 2).2 ∧ Below w2.heap.size w2 w7) := ⟨k7, H6.out.2.trans h67⟩
  have hq7 : pieceQ (nx7 liveW 2).1 s = .iface 71 (.agg #[s, .string (nx7 liveW 2).1.t, .int .i64 2]) := by
    rw [pieceQ_1 rfl, show ((scs (nx7 liveW 2).1.t.data.toList).length : Int) = 2 by kernel_rfl]
  rw [hq7]
  obtain ⟨T7, hT7⟩ : ∃ T, (nx7 liveW 2).1.t = T := ⟨_, rfl⟩
  rw [hT7]
  clear cX o7 k7 f7 h67 hq7 hT7 H6
  go_wp2_with fail
  refine (ilen_any _ _ _ _).mono ?_; rintro r w8 ⟨rfl, h8⟩
  have b8 := b7.trans (h8.mono b7.size)
  have H8 : Hid (WkV w8 w2.heap.size q g (nx7 liveW 2).2 ∧ Below w2.heap.size w2 w8) := ⟨H7.out.1.below h8, H7.out.2.trans (h8.mono H7.out.2.size)⟩
  have hgR := (liveW_rst.next (n := 2) (by decide)).good
  have cL := left7_any w8 H8.out.1 hgR
  rw [liveW_left2] at cL
  clear h8 H7
  go_wp2_with fail
  refine cL.mono ?_; rintro r w9 ⟨rfl, h9⟩
  have b9 := b8.trans (h9.mono b8.size)
  have H9 : Hid (WkV w9 w2.heap.size q g (nx7 liveW 2).2 ∧ Below w2.heap.size w2 w9) := ⟨H8.out.1.below h9, H8.out.2.trans (h9.mono H8.out.2.size)⟩
  have cR := CR.out w9 _ q g b9 H9.out.1
  clear cL h9 H8 CR hgR
  go_wp2_with fail
  refine cR.mono ?_; rintro r w10 ⟨dr, rfl, ⟨qr, rfl⟩, hdr, h10⟩
  have b10 := b9.trans (h10.mono b9.size)
  obtain ⟨B1, B2, hd2⟩ := HD.out
  have hd10 : DelV w10 B1 B2 (.pointer (some ⟨qd, 0, none⟩)) liveW := (hd2.below H9.out.2).below h10
  have h11 : Below w10.heap.size w10 (w10.alloc (.cells #[.int .i64 0] 3)) := (Below.refl _ _).alloc (Nat.le_refl _) _
  have n11 : (w10.alloc (.cells #[.int .i64 0] 3)).cell? ⟨w10.heap.size, 0, none⟩ = some (.int .i64 0) ∧ (w10.alloc (.cells #[.int .i64 0] 3)).frozen? ⟨w10.heap.size, 0, none⟩ = false ∧ (w10.alloc (.cells #[.int .i64 0] 3)).heap.size = w10.heap.size + 1 := ⟨by simp, by simp, by simp⟩
  have b11 := b10.trans (h11.mono b10.size)
  have H11 : Hid (DelV (w10.alloc (.cells #[.int .i64 0] 3)) B1 B2 (.pointer (some ⟨qd, 0, none⟩)) liveW ∧ DelV (w10.alloc (.cells #[.int .i64 0] 3)) w9.heap.size w9.heap.size (.pointer (some ⟨qr, 0, none⟩)) (nx7 liveW 2).2) := ⟨hd10.below h11, hdr.below h11⟩
  have cE := each7_call _ liveW _ H11.out.1
  have HN : Hid ((w10.alloc (.cells #[.int .i64 0] 3)).cell? ⟨w10.heap.size, 0, none⟩ = some (.int .i64 0) ∧ (w10.alloc (.cells #[.int .i64 0] 3)).frozen? ⟨w10.heap.size, 0, none⟩ = false ∧ w10.heap.size < (w10.alloc (.cells #[.int .i64 0] 3)).heap.size) := ⟨n11.1, n11.2.1, by rw [n11.2.2]; omega⟩
  have HB11 : Hid (Below w.heap.size w (w10.alloc (.cells #[.int .i64 0] 3)) ∧ w.heap.size ≤ w10.heap.size) := ⟨b11, b10.size⟩
  clear cR h10 hd2 hd10 hdr h11 n11 b11 HD H9
  go_wp2_with fail
  refine cE.mono ?_; rintro r w12 ⟨xE, rfl, hbx, _, h12⟩
  have H12 : Hid (DelV w12 B1 B2 (.pointer (some ⟨qd, 0, none⟩)) liveW ∧ DelV w12 w9.heap.size w9.heap.size (.pointer (some ⟨qr, 0, none⟩)) (nx7 liveW 2).2 ∧ BoxD w12 xE B1 B2 liveW) := ⟨H11.out.1.below h12, H11.out.2.below h12, hbx⟩
  have HM12 : Hid (w12.cell? ⟨w10.heap.size, 0, none⟩ = some (.int .i64 0) ∧ w12.frozen? ⟨w10.heap.size, 0, none⟩ = false ∧ w10.heap.size < w12.heap.size ∧ Below w.heap.size w w12) :=
    ⟨(h12.cell (lt_of_cell HN.out.1)).trans HN.out.1, (h12.frozen (lt_of_cell HN.out.1)).trans HN.out.2.1, Nat.lt_of_lt_of_le HN.out.2.2 h12.size, HB11.out.1.trans (h12.mono HB11.out.1.size)⟩
  have HN12 : Hid (w12.heap[w10.heap.size]? = some (.cells #[.int .i64 0] 3 (0, 0))) := heap_below h12 (heap_alloc_new w10 _)
  have cS := steps7_call _ _ liveW liveW w12 H12.out.1 H12.out.1
  clear cE hbx h12 H11 HN
  go_wp2_with fail
  refine cS.mono ?_; rintro r w13 ⟨x1, x2, rfl, _, _, h13⟩
  have H13 : Hid (DelV w13 w9.heap.size w9.heap.size (.pointer (some ⟨qr, 0, none⟩)) (nx7 liveW 2).2 ∧ BoxD w13 xE B1 B2 liveW) := ⟨H12.out.2.1.below h13, H12.out.2.2.below h13⟩
  have HM13 : Hid (w13.cell? ⟨w10.heap.size, 0, none⟩ = some (.int .i64 0) ∧ w13.frozen? ⟨w10.heap.size, 0, none⟩ = false ∧ w10.heap.size < w13.heap.size ∧ Below w.heap.size w w13) :=
    ⟨(h13.cell (lt_of_cell HM12.out.1)).trans HM12.out.1, (h13.frozen (lt_of_cell HM12.out.1)).trans HM12.out.2.1, Nat.lt_of_lt_of_le HM12.out.2.2.1 h13.size, HM12.out.2.2.2.trans (h13.mono HM12.out.2.2.2.size)⟩
  have HN13 : Hid (w13.heap[w10.heap.size]? = some (.cells #[.int .i64 0] 3 (0, 0))) := heap_below h13 HN12.out
  have cC := count_any5 _ _ w13 H13.out.1
  clear cS h13 H12 HM12
  go_wp2_with fail
  refine cC.mono ?_; rintro r w14 ⟨rfl, h14⟩
  have H14 : Hid (BoxD w14 xE B1 B2 liveW) := H13.out.2.below h14
  have HM14 : Hid (w14.cell? ⟨w10.heap.size, 0, none⟩ = some (.int .i64 0) ∧ w14.frozen? ⟨w10.heap.size, 0, none⟩ = false ∧ w10.heap.size < w14.heap.size ∧ Below w.heap.size w w14) :=
    ⟨(h14.cell (lt_of_cell HM13.out.1)).trans HM13.out.1, (h14.frozen (lt_of_cell HM13.out.1)).trans HM13.out.2.1, Nat.lt_of_lt_of_le HM13.out.2.2.1 h14.size, HM13.out.2.2.2.trans (h14.mono HM13.out.2.2.2.size)⟩
  have e14 : (((nx7 liveW 2).2.length : Nat) : Int) = 2 := by kernel_rfl
  rw [e14]
  have hz10 : w.heap.size ≤ w10.heap.size := HB11.out.2
  have HN14 : Hid (w14.heap[w10.heap.size]? = some (.cells #[.int .i64 (([] : List PZ).length : Nat)] 3 (0, 0))) := heap_below h14 HN13.out
  have q1 := eqf1
  have q2 := eqf2
  clear cC h14 H13 HM13 e14
  go_wp2_with fail
  refine (wpIn_wide (n := 5)).1 ?_
  refine wpIn_rangeFunc_G (encs := encZ) rfl (by decide) (gf := 23) (lb := #[.pointer (some ⟨xE, 0, none⟩)]) rfl trivial (enters_of Tryz.func23 (by kernel_rfl) rfl)
    (each7_seq liveW w14 xE B1 B2 H14.out liveW_good (fun o ho => by rw [liveW_nil o ho]; exact Nat.zero_le _) (by decide) 4 (by decide)) (Below.refl _ _) (fun _ => rfl) (fun pre x A A' h k => h.bk k) (fun pre x A A' B B' k1 h k2 => KZ.bk k1 h k2)
    (fun xs W => W.heap[w10.heap.size]? = some (.cells #[.int .i64 xs.length] 3 (0, 0)) ∧ Below w.heap.size w W) (fun _ _ _ => False)
    (fun s A A' h k => ⟨k.kept _ _ h.1 (.inl HM14.out.2.2.1), tr_below h.2 (Nat.le_refl _) HM14.out.2.2.2.size k⟩) (fun _ _ _ _ h _ => h) ⟨HN14.out, HM14.out.2.2.2⟩ ?a1 ?assign ?body ?done ?stop
  case assign =>
    intro l x W K hK
    gi_wp2
    exact hK
  case body =>
    rintro l pre x W ⟨hN, hB⟩ ⟨e, s', he, _⟩
    have hk : pre.length < 2 := (List.getElem?_eq_some_iff.1 he).1
    have c0 : W.cell? ⟨w10.heap.size, 0, none⟩ = some (.int .i64 pre.length) := by rw [cell_of_heap hN]; rfl
    have f0 : W.frozen? ⟨w10.heap.size, 0, none⟩ = false := frozen_of_heap hN 0
    have HE : Hid (KZ pre x W (W.setCell ⟨w10.heap.size, 0, none⟩ (.int .i64 ((pre ++ [x]).length : Nat))) ∧ (W.setCell ⟨w10.heap.size, 0, none⟩ (.int .i64 ((pre ++ [x]).length : Nat))).heap[w10.heap.size]? = some (.cells #[.int .i64 ((pre ++ [x]).length : Nat)] 3 (0, 0)) ∧ Below w.heap.size w (W.setCell ⟨w10.heap.size, 0, none⟩ (.int .i64 ((pre ++ [x]).length : Nat)))) :=
      ⟨KZ.set hN _, by rw [heap_set_at W _ 0 _ _ _ _ hN]; rfl, hB.setCell (p := ⟨w10.heap.size, 0, none⟩) hz10 _⟩
    obtain ⟨k, hkk⟩ : ∃ k, pre.length = k := ⟨_, rfl⟩
    have e2 : ((pre ++ [x]).length : Int) = (k : Int) + 1 := by rw [List.length_append, hkk]; simp
    rw [hkk] at c0 hk
    rw [e2] at HE
    clear hN hB he e2
    gi_wp2
    exact ⟨(KeepsOthers.setCell _ _ _).from _, HE.out.1, by rw [List.length_append, hkk]; exact HE.out.2.1, HE.out.2.2⟩
  case stop => intro D c pre W _ h; exact h.elim
  case done =>
    rintro D xs W hD hS ⟨hN, hB⟩ hK
    have c0 : W.cell? ⟨w10.heap.size, 0, none⟩ = some (.int .i64 2) := by rw [cell_of_heap hN, hS]; rfl
    have hD' : w.heap.size ≤ D := Nat.le_trans HM14.out.2.2.2.size hD
    clear hN hS
    gi_wp2
    go_wp2
    exact leave1 w W D _ (fun W' => by simp [results, Tryz.results4, go_sem]) hK hD' hB
end Go.Proofs.YtpmblhofeabppaaGreatDoor

/- One round of WalkEach's outer loop, whatever marks are laid. -/
namespace Go.Proofs.YtpmblhofeabppaaGreatDoor
open Go Go.RowKit Go.Lib Go.Shelf
set_option linter.unusedVariables false
attribute [local go_sem] Oper.semAt_some

def lpBody7 : Code → Option Code
  | .loop c => some c
  | .seq a b => (lpBody7 a).orElse fun _ => lpBody7 b
  | .block _ c => lpBody7 c
  | _ => none
theorem EW7.below {w0 w1 : World} {E : List Op5} {O Ab : Nat} {po : Option Addr} {n co : Nat} {pa : Option Addr} {ca : Nat} (h : EW7 w0 E O Ab po n co pa ca) (b : Below w0.heap.size w0 w1) : EW7 w1 E O Ab po n co pa ca :=
  ⟨h.len, h.good, h.at', h.hn, (b.cell (lt_of_cell h.o)).trans h.o, h.re.below b, (b.cell (lt_of_cell h.a)).trans h.a, h.hca, fun j e he => by
    obtain ⟨g, s, h1, h2, h3⟩ := h.al j e he
    exact ⟨g, s, h1, (b.cell (lt_of_cell h2)).trans h2, h3.below b⟩⟩
set_option maxHeartbeats 8000000 in
set_option maxRecDepth 100000 in
theorem each_round (rc : Code) (hcode : (Tryz.f3.body).bind lpBody7 = some rc) (E : List Op5) (O Ab qd X B1 B2 : Nat) (po : Option Addr) (n co : Nat) (pa : Option Addr) (ca : Nat) (w0 : World) (hw : EW7 w0 E O Ab po n co pa ca) (hX : BoxD w0 X B1 B2 E) (i : Int) (hi : i = 0 ∨ i = 1) (ds : List Deferred) (Q : Exit → Act → World → Prop) {u0 u1 u2 u5 u9 u10 u11 u12 u13 u14 u15 u16 u17 u18 u19 u20 u21 u22 u23 u24 u25 u26 u27 u28 u29 u30 u31 u32 u33 u34 u35 u36 u37 u38 u39 u40 u41 u42 u43 u44 u45 u46 u47 u48 u49 u50 u51 u52 u53 u54 u55 u56 u57 u58 u59 u60 u61 u62 u63 u64 u65 u66 u67 u68 u69 u70 u71 u72 u73 u74 u75 u76 u77 u78 u79 u80 u81 u82 u83 u84 u85 u86 u87 u88 u89 u90 u91 u92 u93 u94 u95 u96 u97 u98 u99 u100 u101 u102 u103 u104 u105 u106 u107 u108 : Value}
    (hQ : ∀ (D : Nat) (W' : World), w0.heap.size ≤ D → W'.heap[D]? = some (.deferred (some [])) → Below w0.heap.size w0 W' → ∀ {x0 x1 x5 x9 x10 x11 x12 x13 x14 x15 x16 x17 x18 x19 x20 x21 x22 x23 x24 x25 x26 x27 x28 x29 x30 x31 x32 x33 x34 x35 x36 x37 x38 x39 x40 x41 x42 x43 x44 x45 x46 x47 x48 x49 x50 x51 x52 x53 x54 x55 x56 x57 x58 x59 x60 x61 x62 x63 x64 x65 x66 x67 x68 x69 x70 x71 x72 x73 x74 x75 x76 x77 x78 x79 x80 x81 x82 x83 x84 x85 x86 x87 x88 x89 x90 x91 x92 x93 x94 x95 x96 x97 x98 x99 x100 x101 x102 x103 x104 x105 x106 x107 x108 : Value}, Q .normal { tmps := #[x0, x1, u2, .pointer (some ⟨qd, 0, none⟩), .pointer (some ⟨O, 0, none⟩), x5, .func (.func 23) #[] #[.pointer (some ⟨X, 0, none⟩)], .pointer (some ⟨Ab, 0, none⟩), .int .i64 (i + 1), x9, x10, x11, x12, x13, x14, x15, x16, x17, x18, x19, x20, x21, x22, x23, x24, x25, x26, x27, x28, x29, x30, x31, x32, x33, x34, x35, x36, x37, x38, x39, x40, x41, x42, x43, x44, x45, x46, x47, x48, x49, x50, x51, x52, x53, x54, x55, x56, x57, x58, x59, x60, x61, x62, x63, x64, x65, x66, x67, x68, x69, x70, x71, x72, x73, x74, x75, x76, x77, x78, x79, x80, x81, x82, x83, x84, x85, x86, x87, x88, x89, x90, x91, x92, x93, x94, x95, x96, x97, x98, x99, x100, x101, x102, x103, x104, x105, x106, x107, x108], defers := { target := .collected D, args := #[] } :: ds } W') :
    rc.wpIn Fence.wide 5 Tryz.prog Q { tmps := #[u0, u1, u2, .pointer (some ⟨qd, 0, none⟩), .pointer (some ⟨O, 0, none⟩), u5, .func (.func 23) #[] #[.pointer (some ⟨X, 0, none⟩)], .pointer (some ⟨Ab, 0, none⟩), .int .i64 i, u9, u10, u11, u12, u13, u14, u15, u16, u17, u18, u19, u20, u21, u22, u23, u24, u25, u26, u27, u28, u29, u30, u31, u32, u33, u34, u35, u36, u37, u38, u39, u40, u41, u42, u43, u44, u45, u46, u47, u48, u49, u50, u51, u52, u53, u54, u55, u56, u57, u58, u59, u60, u61, u62, u63, u64, u65, u66, u67, u68, u69, u70, u71, u72, u73, u74, u75, u76, u77, u78, u79, u80, u81, u82, u83, u84, u85, u86, u87, u88, u89, u90, u91, u92, u93, u94, u95, u96, u97, u98, u99, u100, u101, u102, u103, u104, u105, u106, u107, u108], defers := ds } w0 := by
  delta Tryz.f3 at hcode
  simp only [lpBody7, Option.bind_some, Option.some.injEq, Option.orElse] at hcode
  subst hcode
  have hiI : i < 2 := by omega
  have hwi : IntKind.i64.wrap (i + 1) = i + 1 := by rcases hi with rfl | rfl <;> decide
  have b1 : Below w0.heap.size w0 (w0.alloc (.cells #[.int .i64 0] 3)) := (Below.refl _ _).alloc (Nat.le_refl _) _
  have HW := Hid.mk7 hw
  have HX := Hid.mk7 (hX.below b1)
  have HB := Hid.mk7 b1
  have HI0 : Hid (EI7 w0.heap.size w0 [] (w0.alloc (.cells #[.int .i64 0] 3))) := ⟨heap_alloc_new w0 _, b1⟩
  clear hw hX b1 hi
  gi_wp2
  refine wpIn_rangeFunc_G (encs := encZ) rfl (by decide) (gf := 23) (lb := #[.pointer (some ⟨X, 0, none⟩)]) rfl trivial (enters_of Tryz.func23 (by kernel_rfl) rfl)
    (each7_seq E (w0.alloc (.cells #[.int .i64 0] 3)) X B1 B2 HX.out HW.out.good (fun o ho => by have := HW.out.at' o ho; omega) (by have := HW.out.len; have := HW.out.hn; omega) 4 (by decide)) (Below.refl _ _) (fun _ => rfl) (fun pre x A A' h k => h.bk k) (fun pre x A A' B B' k1 h k2 => KZ.bk k1 h k2)
    (EI7 w0.heap.size w0) (fun _ _ _ => False)
    (fun s A A' h k => ⟨k.kept _ _ h.1 (.inl (by rw [World.size_alloc]; omega)), tr_below h.2 (Nat.le_refl _) HB.out.size k⟩) (fun _ _ _ _ h _ => h) HI0.out ?a1 ?assign ?body ?done ?stop
  case assign =>
    intro l x W K hK
    gi_wp2
    exact hK
  case body =>
    intro l pre x W hI hG
    exact each_body _ rfl E O Ab w0.heap.size po n co pa ca w0 (w0.alloc (.cells #[.int .i64 0] 3)) HW.out (Nat.le_refl _) (by rw [World.size_alloc]; omega) _ (Nat.le_refl _) _ l pre x W hI hG
  case stop => intro D c pre W _ h; exact h.elim
  case done =>
    rintro D xs W hD hS ⟨hN, hB⟩ hK
    have hD' : w0.heap.size ≤ D := Nat.le_trans HB.out.size hD
    have hn : xs.length = n := hS.trans HW.out.len
    rw [hn] at hN
    have c0 : W.cell? ⟨w0.heap.size, 0, none⟩ = some (.int .i64 (n : Nat)) := by rw [cell_of_heap hN]; rfl
    have c1 : W.cell? ⟨O, 0, none⟩ = some (.slice po n co) := (hB.cell (lt_of_cell HW.out.o)).trans HW.out.o
    have hnn : ((n : Int) != (n : Int)) = false := bne_self_eq_false _
    clear hN hS hn HI0 HX hD
    gi_wp2
    exact hQ D W hD' hK hB
end Go.Proofs.YtpmblhofeabppaaGreatDoor
