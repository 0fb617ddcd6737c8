/- A piece cut in two. The Walker's calls. measure: Shift. What vellumref04.Refuse and Check answer: what an insert is refused with. What vellumref04.Length answers of inserts. The document's answers for ops: empty, Check, Length, apart. The document's answers for lists of operations: Bad, Lengths, Canonical. The document's Canonical. What vellumref04.copied and vellumref04.Join answer. What vellumref04.Length, Cells and Newlines answer of inserts. The document's deltas: Same, SameOp, Insert, Len. The document's deltas: Len. vellumhand.Make, Is; vellumlaw06's gone, text, large, lives. vellumlaw06.lives answers true. vellumlaw08: of, is, fixed. vellumlaw08: fixed answers true. Canonical lists of operations in order are in order. A delta of a list made canonical. The errors' numbers: what vellumnum.list and vellumnum.Num answer where all nineteen sentinels lie as laid. Deltas of lists made canonical; of all arguments vellumlaw08.MeasureShifts answers true. -/
import Derived.Test.YtgimcloadjjefabGreatDoorMgd
import Derived.Test.YtgimcloadjjefabGreatDoorCf
import Derived.Test.YtgimcloadjjefabGreatDoorCp
import Derived.BigRegion
import Derived.Deep.RegionHeld3
import Derived.Deep.DeepCutAuto
import Derived.Test.YtgimcloadjjefabGreatDoorMge
import Derived.Deep.RegionWith
import Derived.Test.YtgimcloadjjefabGreatDoorSw
import Derived.Test.YtgimcloadjjefabGreatDoorQf
import Derived.Test.YtgimcloadjjefabGreatDoorMga
import Derived.Test.YtgimcloadjjefabGreatDoorMgc
import Derived.Test.YtgimcloadjjefabGreatDoorQe
import Derived.Test.YtgimcloadjjefabGreatDoorEr

/- A piece cut in two. -/
namespace Go.Proofs.YtgimcloadjjefabGreatDoor
open Go Go.RowKit Go.Lib
set_option linter.unusedVariables false

theorem heap_drw7 (W : World) (k : Nat) : W.drew.heap[k]? = W.heap[k]? := rfl
theorem box3 (w : World) (o : Array Value) (T : TypeId) (W : World) (hW : (((w.alloc (.cells o T)).alloc (.cells o T)).alloc (.cells o T)).drew = W) : W.heap[w.heap.size + 1]? = some (.cells o T (0, 0)) ∧ W.heap[w.heap.size + 1 + 1]? = some (.cells o T (0, 0)) ∧ Below (w.heap.size + 1) (w.alloc (.cells o T)) W := by
  subst hW
  have e1 := heap_alloc_new (w.alloc (.cells o T)) (.cells o T)
  have e2 := heap_alloc_new ((w.alloc (.cells o T)).alloc (.cells o T)) (.cells o T)
  simp only [World.size_alloc] at e1 e2
  refine ⟨?_, e2, ?_⟩
  · exact ((Below.refl ((w.alloc (.cells o T)).alloc (.cells o T)).heap.size _).alloc (Nat.le_refl _) _).block (w.heap.size + 1) (by simp) |>.trans e1
  · exact (((Below.refl (w.alloc (.cells o T)).heap.size _).alloc (Nat.le_refl _) _).alloc (by simp) _).drew.mono (by simp)
set_option maxHeartbeats 2000000 in
set_option maxRecDepth 100000 in
theorem cutText_any (p : Option Addr) (l c : Nat) (t : ByteArray) (N : Int) (A : List A2) (rs : List Nat) (m : Nat) (w : World) (hR : RN w (.slice p l c) A) (hl : A.length ≤ 2097152)
    (hv : t.data.toList = encs rs) (hs : ∀ r ∈ rs, scal r) (hm : m ≤ rs.length) (ht : t.size ≤ 8388608) (hrl : rs.length ≤ t.size) (hN : (m : Int) ≤ N) (hN2 : N ≤ 8388608) :
    Calls Tryz.prog 72 #[.agg #[.slice p l c, .string t, .int .i64 N], .int .i64 m] w fun r w' => ∃ p' c', r = .returned (.tuple #[.iface 111 (.agg #[.slice p' A.length c', .string (t.extract 0 (pos rs m)), .int .i64 m]), .iface 111 (.agg #[.slice p l c, .string (t.extract (pos rs m) t.size), .int .i64 (N - m)])]) ∧ OwnA w' w.heap.size (.slice p' A.length c') A ∧ Below w.heap.size w w' := by
  have cP := fun W => placeOf_any t rs m W hv hs hm (by omega) hrl
  have cA := fun W (hW : Below w.heap.size w W) => attributes_any (.slice p l c) A W (hR.below hW).row hR.nz hl
  have hpt : pos rs m ≤ t.size := by have := pos_le rs m; have := size_toList t; rw [hv] at this; omega
  obtain ⟨x, hx⟩ : ∃ x, pos rs m = x := ⟨_, rfl⟩
  rw [hx] at hpt
  simp only [hx] at cP ⊢
  clear hR hl hv hs hx hrl
  go_enter Tryz.func72, Tryz.ntmps72
  go_upto_region 1 with fail
  go_cut [6, 7] (fun x6 x7 wx => ∃ X Y, x6 = .pointer (some ⟨X, 0, none⟩) ∧ x7 = .pointer (some ⟨Y, 0, none⟩) ∧ X ≠ Y ∧ w.heap.size < X ∧ w.heap.size < Y ∧ wx.heap[X]? = some (.cells #[.slice p l c, .string t, .int .i64 N] 111 (0, 0)) ∧ wx.heap[Y]? = some (.cells #[.slice p l c, .string t, .int .i64 N] 111 (0, 0)) ∧ Below (w.heap.size + 1) (w.alloc (.cells #[.slice p l c, .string t, .int .i64 N] 111)) wx)
  case first =>
    go_region
    all_goals (try go_wp2)
    all_goals go_meet
    all_goals obtain ⟨h1, h2, hB⟩ := box3 w _ _ _ rfl
    · exact ⟨_, _, rfl, rfl, by omega, by omega, by omega, h1, h2, hB⟩
    · exact ⟨_, _, rfl, rfl, by omega, by omega, by omega, h2, h1, hB⟩
  case rest =>
    obtain ⟨X, Y, rfl, rfl, nXY, lX, lY, hX, hY, hB⟩ := hcut
    have hb0 : Below w.heap.size w wc := ((Below.refl _ w).alloc (Nat.le_refl _) _).trans (hB.mono (by omega))
    have k0 : wc.heap[w.heap.size]? = some (.cells #[.slice p l c, .string t, .int .i64 N] 111 (0, 0)) := (hB.block _ (by omega)).trans (heap_alloc_new w _)
    have zX := (Array.getElem?_eq_some_iff.1 hX).1
    have zY := (Array.getElem?_eq_some_iff.1 hY).1
    have d1 : wc.cell? ⟨w.heap.size, 1, none⟩ = some (.string t) := by rw [cell_of_heap k0]; rfl
    go_wp2_with fail
    refine (cP _).mono ?_; rintro r w2 ⟨rfl, hb2⟩
    have b2 := hb0.trans (hb2.mono hb0.size)
    have m0 := heap_below hb2 k0
    have mX := heap_below hb2 hX
    have mY := heap_below hb2 hY
    clear d1 k0 hX hY hb0
    have d0 : w2.cell? ⟨w.heap.size, 0, none⟩ = some (.slice p l c) := by rw [cell_of_heap m0]; rfl
    go_wp2_with fail
    refine (cA _ b2).mono ?_; rintro r w3 ⟨v', rfl, own3, hb3⟩
    obtain ⟨p', c', rfl⟩ := own_slice own3
    have b3 := b2.trans (hb3.mono b2.size)
    have q0 := heap_below hb3 m0
    have qX := heap_below hb3 mX
    have qY := heap_below hb3 mY
    have d1 : w3.cell? ⟨w.heap.size, 1, none⟩ = some (.string t) := by rw [cell_of_heap q0]; rfl
    have x0 : w3.cell? ⟨X, 0, none⟩ = some (.slice p l c) := by rw [cell_of_heap qX]; rfl
    have x1 : w3.cell? ⟨X, 1, none⟩ = some (.string t) := by rw [cell_of_heap qX]; rfl
    have x2 : w3.cell? ⟨X, 2, none⟩ = some (.int .i64 N) := by rw [cell_of_heap qX]; rfl
    have y0 : w3.cell? ⟨Y, 0, none⟩ = some (.slice p l c) := by rw [cell_of_heap qY]; rfl
    have y1 : w3.cell? ⟨Y, 1, none⟩ = some (.string t) := by rw [cell_of_heap qY]; rfl
    have y2 : w3.cell? ⟨Y, 2, none⟩ = some (.int .i64 N) := by rw [cell_of_heap qY]; rfl
    have g0 : w3.frozen? ⟨X, 0, none⟩ = false := frozen_of_heap qX 0
    have g1 : w3.frozen? ⟨X, 1, none⟩ = false := frozen_of_heap qX 1
    have g2 : w3.frozen? ⟨X, 2, none⟩ = false := frozen_of_heap qX 2
    have k1 : w3.frozen? ⟨Y, 1, none⟩ = false := frozen_of_heap qY 1
    have k2 : w3.frozen? ⟨Y, 2, none⟩ = false := frozen_of_heap qY 2
    have n1 : ¬ X = w.heap.size := by omega
    have n2 : ¬ w.heap.size = X := by omega
    have n3 : ¬ Y = w.heap.size := by omega
    have n4 : ¬ w.heap.size = Y := by omega
    have n5 : ¬ X = Y := nXY
    have n6 : ¬ Y = X := Ne.symm nXY
    have z1 : w.heap.size ≤ X := by omega
    have z2 : w.heap.size ≤ Y := by omega
    have z3 : w.heap.size ≤ w2.heap.size := b2.size
    have hxt : (x : Int) ≤ t.size := by omega
    have hs3 : Hid (OwnA w3 w.heap.size (.slice p' A.length c') A ∧ (∀ k, (Value.slice p' A.length c').ownBlock = some k → k ≠ X ∧ k ≠ Y)) := ⟨own_weaken own3 z3, fun k hk => by have h1 := (owns_block own3 k hk).1; have := (Array.getElem?_eq_some_iff.1 mX).1; have := (Array.getElem?_eq_some_iff.1 mY).1; omega⟩
    have HB3 : Hid (Below w.heap.size w w3) := b3
    clear q0 qX qY m0 mX mY own3 hb3 b3 b2 hb2 d0 lX lY nXY hB zX zY cP cA
    go_wp2
    go_region
    go_wp2
    go_region
    go_wp2
    go_ret2
    refine ⟨p', c', rfl, ?_, ?_⟩
    · exact owns_same hs3.out.1 (fun k hk => by
        obtain ⟨e1, e2⟩ := hs3.out.2 k hk
        repeat (with_reducible first | (refine (heap_drw7 _ _).trans ?_) | (refine (Below.heap_setCell _ _ _ _ e1).trans ?_) | (refine (Below.heap_setCell _ _ _ _ e2).trans ?_) | rfl))
    · repeat (with_reducible first | exact HB3.out | (refine Below.drew ?_) | (refine Below.setCell ?_ (p := ⟨X, _, none⟩) z1 _) | (refine Below.setCell ?_ (p := ⟨Y, _, none⟩) z2 _))
end Go.Proofs.YtgimcloadjjefabGreatDoor

/- The Walker's calls. -/
namespace Go.Proofs.YtgimcloadjjefabGreatDoor
open Go Go.RowKit Go.Lib
set_option linter.unusedVariables false

theorem as_i_e7 (v : Value) (W : World) : (Instr.typeAssert (.iface 111 v) 60 116 true).run Tryz.prog W = .ok (.tuple #[.agg #[.slice none 0 0, .string ⟨#[]⟩, .nilIface], .bool false]) W := by kernel_rfl
/-- What comes next. -/
def top7 : List Op5 → Op5
  | [] => pl7 1099511627776
  | x :: _ => x
theorem top_left (R : List Op5) : len5 (top7 R) = left7 R := by
  cases R with
  | nil => exact (pl_good (by omega) (by omega)).2
  | cons x r => rfl
theorem top_kind (R : List Op5) : (top7 R).k = kind7 R := by cases R <;> rfl
theorem top_good {R : List Op5} (h : ∀ o ∈ R, opE o = 0) : opE (top7 R) = 0 := by
  cases R with
  | nil => exact (pl_good (by omega) (by omega)).1
  | cons x r => exact h x (List.mem_cons_self ..)
theorem pieceQ_pl (n : Int) : pieceQ (pl7 n) (.slice none 0 0) = .iface 73 (.agg #[.slice none 0 0, .int .i64 n]) := pieceQ_3 rfl
end Go.Proofs.YtgimcloadjjefabGreatDoor

/- measure: Shift. -/
namespace Go.Proofs.YtgimcloadjjefabGreatDoor
open Go Go.RowKit Go.Lib
set_option linter.unusedVariables false

/-- Does a shift keep the bound? -/
def FitSh (E : List Op5) (n : Int) : Prop := E = [] ∨ (n + sumB E ≤ 1099511627776 ∧ n + sumR E ≤ 1099511627776)
/-- What Shift answers. -/
def ShR (a : Nat → Addr) (w' : World) (E : List Op5) (n : Int) (dv er : Value) : Prop :=
  ((n < 0 ∨ 1099511627776 < n) → dv = .pointer none ∧ er = errV a 11) ∧
  (¬ (n < 0 ∨ 1099511627776 < n) → (FitSh E n → er = .nilIface ∧ ∃ C1 C2, DelV w' C1 C2 dv (shift8 E n)) ∧ (¬ FitSh E n → er = errV a 10 ∧ dv = .pointer none))
theorem pl_sums (n : Int) (E : List Op5) : sumB (pl7 n :: E) = n + sumB E ∧ sumR (pl7 n :: E) = n + sumR E := by
  rw [sumB_cons, sumR_cons, base_3 (.inl rfl), res_3 rfl]
  exact ⟨rfl, rfl⟩
theorem fits_sh {E : List Op5} {n : Int} (h0 : E ≠ []) : Fits8 (pl7 n :: E) ↔ FitSh E n := by
  obtain ⟨h1, h2⟩ := pl_sums n E
  unfold Fits8 FitSh
  rw [h1, h2]
  simp [h0]
theorem own_oneP (w : World) (B : Nat) {g : Nat} {V : Value} (h : w.heap[g]? = some (.cells #[V] 60 (0, 0))) (hB : B ≤ g) : OwnI w B (.slice (some ⟨g, 0, none⟩) 1 1) [V] :=
  ⟨rfl, Or.inr ⟨g, 1, #[V], rfl, hB, h, Nat.le_refl _, by unfold maxLen; omega, rfl, rfl⟩⟩
abbrev plV8 (n : Int) : Value := .iface 73 (.agg #[.slice none 0 0, .int .i64 n])
theorem pl_fit (n : Int) : FitA (pl7 n) := ⟨by show (0 : Nat) ≤ 1048576; decide, fun q hq => (by cases hq), by show (0 : Nat) ≤ 1048576; decide⟩
set_option maxHeartbeats 2000000 in
set_option maxRecDepth 100000 in
theorem shift8_any {I : List Nat} {a : Nat → Addr} {B1 B2 : Nat} (v : Value) (E : List Op5) (n : Int) (w : World) (hI : ∀ i ∈ IxO, i ∈ I) (h11 : 11 ∈ I) (hS : Std I a w) (hE : DlE w B1 B2 v E) (hl : E.length + 1 ≤ 2097152) (hn : -9223372036854775808 ≤ n ∧ n ≤ 9223372036854775807) :
    Calls Tryz.prog 20 #[v, .int .i64 n] w fun r w' => ∃ dv er, r = .returned (.tuple #[dv, er]) ∧ ShR a w' E n dv er ∧ Below w.heap.size w w' := by
  have hd := hE.d
  obtain ⟨q1, pv1, PL1, rfl, _⟩ := id hd
  have cC := count_any5 _ E w hd
  by_cases hn0 : n < 0 ∨ 1099511627776 < n
  · have gL : w.cell? ⟨1, 0, none⟩ = some (errV a 11) := hS.er.cell 11 h11
    have HR : Hid (∀ W, ShR a W E n (.pointer none) (errV a 11)) := fun W => ⟨fun _ => ⟨rfl, rfl⟩, fun h => absurd hn0 h⟩
    clear cC hd hE hS
    by_cases h1 : n < 0
    · clear hn0
      go_enter Tryz.func20, Tryz.ntmps20
      go_wp2
      go_quiet (fail)
      go_wp2
      go_ret2
      exact ⟨_, _, rfl, HR.out _, below_drewN (Below.refl _ _) _⟩
    · have h2 : n > 1099511627776 := by omega
      clear hn0
      go_enter Tryz.func20, Tryz.ntmps20
      go_wp2
      go_quiet (fail)
      go_wp2
      go_ret2
      exact ⟨_, _, rfl, HR.out _, below_drewN (Below.refl _ _) _⟩
  · have h1 : ¬ n < 0 := by omega
    have h2 : ¬ n > 1099511627776 := by omega
    by_cases hz : n = 0
    · subst hz
      have HR : Hid (∀ W, Below w.heap.size w W → ShR a W E 0 (.pointer (some ⟨q1, 0, none⟩)) .nilIface) := fun W hW => ⟨fun h => absurd h hn0, fun _ => ⟨fun _ => ⟨rfl, B1, B2, by
        have e : shift8 E 0 = E := if_pos (Or.inl rfl)
        rw [e]; exact hd.below hW⟩, fun h => absurd (Or.inr (by have := hE.fits; unfold Fits8 at this; omega)) h⟩⟩
      clear hd hE hS cC hn0
      go_enter Tryz.func20, Tryz.ntmps20
      go_wp2
      go_ret2
      exact ⟨_, _, rfl, HR.out _ (Below.refl _ _), Below.refl _ _⟩
    · have hzb : (n == 0) = false := by simpa using hz
      by_cases h0 : E = []
      · subst h0
        have HR : Hid (∀ W, Below w.heap.size w W → ShR a W [] n (.pointer (some ⟨q1, 0, none⟩)) .nilIface) := fun W hW => ⟨fun h => absurd h hn0, fun _ => ⟨fun _ => ⟨rfl, B1, B2, by
          have e : shift8 [] n = [] := if_pos (Or.inr rfl)
          rw [e]; exact hd.below hW⟩, fun h => absurd (Or.inl rfl) h⟩⟩
        clear hd hE hS hn0 hz
        go_enter Tryz.func20, Tryz.ntmps20
        go_wp2_with fail
        refine cC.mono ?_; rintro r w2 ⟨rfl, b2⟩
        go_wp2
        go_ret2
        exact ⟨_, _, rfl, HR.out _ b2, b2⟩
      · have hlb : ((E.length : Int) == 0) = false := by simpa using h0
        have e8 : shift8 E n = canonL (pl7 n :: E) := if_neg (by simp [hz, h0])
        have cP : Hid (∀ W, Below w.heap.size w W → Calls Tryz.prog 30 #[.pointer (some ⟨q1, 0, none⟩)] W fun r w' => ∃ p nn PA, r = .returned (.slice p E.length nn) ∧ Hid (PA.length = E.length ∧ ∀ W', Below w'.heap.size w' W' → OwnI W' w.heap.size (.slice p E.length nn) PA ∧ PieD W' w.heap.size PA E) ∧ Below W.heap.size W w' ∧ Below w.heap.size w w') := fun W hW => by
          have h := hE.below hW
          refine (pieces_any _ E W h.d h.g h.n (Nat.le_trans h.len (by decide))).mono ?_
          rintro r w' ⟨v', rfl, ⟨P, own, pie⟩, b⟩
          have hPE : P.length = E.length := forall2_len pie
          obtain ⟨p, nn, rfl⟩ := own_slice own
          rw [hPE] at own ⊢
          exact ⟨p, nn, P, rfl, ⟨hPE, fun W' hb => ⟨owns_below (own_weaken own hW.size) hb, (pie.weaken hW.size).below hb⟩⟩, b, hW.trans (b.mono hW.size)⟩
        have cK : Hid (∀ W g1 b p nn PA, W.heap[g1]? = some (.cells #[plV8 n] 60 (0, 0)) → W.cell? ⟨b, 0, none⟩ = some (.slice (some ⟨g1, 0, none⟩) 1 1) → W.cell? ⟨b, 1, none⟩ = some (.slice p E.length nn) → w.heap.size ≤ g1 → PA.length = E.length → (OwnI W w.heap.size (.slice p E.length nn) PA ∧ PieD W w.heap.size PA E) → Below w.heap.size w W →
            Calls Tryz.prog 29 #[.slice (some ⟨b, 0, none⟩) 2 2] W fun r w' => ∃ p5 m5 n5 PQ, r = .returned (.slice p5 m5 n5) ∧ Hid (OwnI w' w.heap.size (.slice p5 m5 n5) PQ ∧ PieD w' w.heap.size PQ (pl7 n :: E)) ∧ Below w.heap.size w w') := fun W g1 b p nn PA hg hb0 hb1 hge hPE ⟨ho, hp⟩ hW => by
          refine (conc8_any (.slice (some ⟨g1, 0, none⟩) 1 1) (.slice p E.length nn) [plV8 n] PA b 2 W hb0 hb1 (own_oneP W w.heap.size hg hge) ho (by intro u hu; rw [List.mem_singleton.1 hu]; rfl) (pie_one hp) (by rw [hPE]; simp; omega) (Nat.le_refl _)).mono ?_
          rintro r w' ⟨v', rfl, own, b'⟩
          have h := hp.below b'
          have h2 : PieD w' w.heap.size ([plV8 n] ++ PA) ([pl7 n] ++ E) := forall2_append (.cons ⟨.slice none 0 0, (pieceQ_pl n).symm, World.ownsRow_nil _ _ _ _⟩ .nil) h
          obtain ⟨p5, n5, rfl⟩ := own_slice own
          exact ⟨p5, _, n5, _, rfl, ⟨own_weaken own hW.size, h2⟩, hW.trans (b'.mono hW.size)⟩
        have cG : Hid (∀ W p5 m5 n5 PQ, Below w.heap.size w W → (OwnI W w.heap.size (.slice p5 m5 n5) PQ ∧ PieD W w.heap.size PQ (pl7 n :: E)) → Calls Tryz.prog 28 #[.slice p5 m5 n5] W fun r w' => ∃ dv er, r = .returned (.tuple #[dv, er]) ∧ Hid (ShR a w' E n dv er) ∧ Below w.heap.size w w') := fun W p5 m5 n5 PQ hW ⟨ho, hp⟩ => by
          have hg : ∀ o ∈ pl7 n :: E, opE o = 0 := fun o ho => by
            rcases List.mem_cons.1 ho with rfl | ho
            · exact (pl_good (by omega) (by omega)).1
            · exact hE.g o ho
          refine (gath8_any _ PQ (pl7 n :: E) W hI (hS.below hW) ho hp hg (fun o ho => (List.mem_cons.1 ho).elim (fun e => e ▸ pl_fit n) (hE.fit o)) (by simpa using hl) (by rw [txtS_cons]; have := hE.txt; show 0 + _ ≤ _; omega)).mono ?_
          rintro r w' ⟨dv, er, rfl, x1, x2, x3⟩
          refine ⟨dv, er, rfl, ⟨fun h => absurd h hn0, fun _ => ⟨fun h => ?_, fun h => x2 (fun hf => h ((fits_sh h0).1 hf))⟩⟩, hW.trans (x3.mono hW.size)⟩
          obtain ⟨y1, y2⟩ := x1 ((fits_sh h0).2 h)
          rw [← e8] at y2
          exact ⟨y1, _, _, y2⟩
        obtain ⟨m, hm⟩ : ∃ m, E.length = m := ⟨_, rfl⟩
        rw [hm] at hlb cC cP cK
        have HM : Hid (E.length = m) := hm
        clear hd hE hS hn0 hz e8 hm hl
        go_enter Tryz.func20, Tryz.ntmps20
        go_wp2_with fail
        refine cC.mono ?_; rintro r w2 ⟨rfl, b2⟩
        have hz2 := b2.size
        obtain ⟨w3, hw3⟩ : ∃ W, w2.alloc (.cells #[.slice none 0 0, .int .i64 n] 73) = W := ⟨_, rfl⟩
        have b3 : Below w.heap.size w w3 := by rw [← hw3]; exact b2.trans (((Below.refl _ _).alloc (Nat.le_refl _) _).mono hz2)
        have k0 : w3.cell? ⟨w2.heap.size, 0, none⟩ = some (.slice none 0 0) := by rw [← hw3]; simp
        have k1 : w3.cell? ⟨w2.heap.size, 1, none⟩ = some (.int .i64 n) := by rw [← hw3]; simp
        go_upto_region 6 with fail
        try rw [hw3]
        obtain ⟨X, hX⟩ : ∃ X, w2.heap.size = X := ⟨_, rfl⟩
        rw [hX] at k0 k1 ⊢
        have bd : Below w.heap.size w w3.drew := b3.drew
        have bx : ∀ x, Below w.heap.size w (w3.alloc x).drew := fun x => (b3.alloc b3.size x).drew
        have h3d : Below w3.heap.size w3 w3.drew := (Below.refl _ _).drew
        have h3x : ∀ x, Below w3.heap.size w3 (w3.alloc x).drew := fun x => ((Below.refl _ _).alloc (Nat.le_refl _) x).drew
        have HC : Hid (∀ W', Below w3.heap.size w3 W' → W'.cell? ⟨X, 0, none⟩ = some (.slice none 0 0) ∧ W'.cell? ⟨X, 1, none⟩ = some (.int .i64 n)) := fun W' h => ⟨(h.cell (lt_of_cell k0)).trans k0, (h.cell (lt_of_cell k1)).trans k1⟩
        clear hw3 hX cC hz2 b2
        have md := HC.out _ (Below.refl w3.heap.size w3).drew
        have hzd : w.heap.size ≤ w3.heap.size := b3.size
        clear k0 k1
        go_region_with (first
          | (go_at_call 30; refine (cP.out _ ?_).mono ?_; (· first | exact bd | exact bx _); rintro r wA ⟨p, nn, PA, rfl, HA, bC, bA⟩; have mA := HC.out wA (by first | exact h3d.trans (bC.mono h3d.size) | exact (h3x _).trans (bC.mono (h3x _).size)))
          | (go_at_call 29; refine (cK.out _ w3.heap.size _ p nn PA (by exact heap_below ((Below.refl _ _).alloc (Nat.le_refl _) _) (heap_below bC (heap_alloc_new w3 _))) (by simp) (by simp) hzd HA.out.1 (HA.out.2 _ ((Below.refl _ _).alloc (Nat.le_refl _) _)) (bA.alloc bA.size _)).mono ?_; rintro r w5 ⟨p5, m5, n5, PQ, rfl, H5, b5⟩)
          | (go_at_call 29; refine (cK.out _ wA.heap.size _ p nn PA (by exact heap_below ((Below.refl _ _).alloc (Nat.le_refl _) _) (heap_alloc_new wA _)) (by simp) (by simp) bA.size HA.out.1 (HA.out.2 _ (((Below.refl _ _).alloc (Nat.le_refl _) _).alloc (by simp) _)) ((bA.alloc bA.size _).alloc (by simp; have := bA.size; omega) _)).mono ?_; rintro r w5 ⟨p5, m5, n5, PQ, rfl, H5, b5⟩)
          | (go_at_call 28; refine (cG.out _ _ _ _ PQ b5 H5.out).mono ?_; rintro r w6 ⟨dv, er, rfl, H6, b6⟩))
        all_goals (go_wp2; go_ret2; exact ⟨_, _, rfl, H6.out, b6⟩)
end Go.Proofs.YtgimcloadjjefabGreatDoor

/- What vellumref04.Refuse and Check answer: what an insert is refused with. -/
namespace Go.Proofs.YtgimcloadjjefabGreatDoor
open Go Go.RowKit Go.Lib
set_option linter.unusedVariables false

theorem Fit.tiny {o : Op5} (h : Fit o) : Tiny o.A := h.A

set_option maxHeartbeats 2000000 in
theorem ref_ins {I : List Nat} {a : Nat → Addr} (o : Op5) (s : Value) (w : World) (hS : Std I a w) (hR : RN w s o.A) (hF : Fit o) :
    Calls Tryz.prog 64 #[opV o s] w fun r w' => r = .returned (.int .i64 (insE o)) ∧ Below w.heap.size w w' := by
  have b0 := (Below.refl w.heap.size w).alloc (Nat.le_refl _) (.cells (opC o s) 46)
  have D0 := BoxO.new w o s
  have cU : Hid (∀ b, decide (brk o.t.data.toList = o.t.size) = b → ∀ W, Calls Tryz.prog 73 #[.string o.t] W fun r w' => r = .returned (.bool b) ∧ Below W.heap.size W w') := fun b hb W => ref_utf8 o.t W (by have := hF.t; omega) b hb
  have cV : Hid (∀ W, Calls Tryz.prog 74 #[pl o.v.1 o.v.2.1 o.v.2.2] W fun r w' => r = .returned (.int .i64 (chkP o.v)) ∧ Below W.heap.size W w') := fun W => ref_chk _ _ _ W (by have := hF.v; omega)
  have cA : Hid (∀ W, Below w.heap.size w W → Calls Tryz.prog 65 #[s, .bool false] W fun r w' => r = .returned (.int .i64 (listE false none o.A)) ∧ Below W.heap.size W w') := fun W hW => ref_check s o.A false W (hS.below hW) (hR.row.below hW) hF.tiny (by have := hF.n; omega)
  obtain ⟨E, hE⟩ : ∃ E, insE o = E := ⟨_, rfl⟩
  rw [hE]
  obtain ⟨V, hV⟩ : ∃ V, chkP o.v = V := ⟨_, rfl⟩
  obtain ⟨L, hL⟩ : ∃ L, listE false none o.A = L := ⟨_, rfl⟩
  rw [hV] at cV
  rw [hL] at cA
  have hE' : E = if fldE o ≠ 0 then fldE o else if brk o.t.data.toList ≠ o.t.size then 1 else if V ≠ 0 then V else L := by rw [← hE, ← hV, ← hL]; rfl
  have hz : o.v = z0 → V = 0 := fun h => by rw [← hV, h]; exact chk_z0
  obtain ⟨U, hU⟩ : ∃ U, decide (brk o.t.data.toList = o.t.size) = U := ⟨_, rfl⟩
  have hU' : (brk o.t.data.toList ≠ o.t.size) = (U = false) := by rw [← hU]; simp
  simp only [hU'] at hE'
  have cU : Hid (∀ W, Calls Tryz.prog 73 #[.string o.t] W fun r w' => r = .returned (.bool U) ∧ Below W.heap.size W w') := cU.out U hU
  clear hE hV hL hU hU' hF hS hR
  have HD : Hid (BoxO (w.alloc (.cells (opC o s) 46)) w.heap.size o s) := D0
  have HA : Hid (∀ W, Below (w.alloc (.cells (opC o s) 46)).heap.size (w.alloc (.cells (opC o s) 46)) W → Calls Tryz.prog 65 #[s, .bool false] W fun r w' => r = .returned (.int .i64 L) ∧ Below W.heap.size W w') := fun W hW => cA.out W (b0.trans (hW.mono b0.size))
  clear cA
  obtain ⟨k, t, ⟨x, n, u⟩, c, A⟩ := o
  obtain ⟨d0, d1, d2, d3, d4, d5, d6⟩ := D0
  simp only at d0 d1 d2 d3 d4 d5 d6 cU cV hz
  simp only [opC] at b0 d0 d1 d2 d3 d4 d5 d6 HD HA
  have gd := fun op x' y' w => guard_pl op x' y' (x, n, u) (0, 0, ⟨#[]⟩) w
  unfold fldE at hE'
  simp only at hE'
  have fin : ∀ w2, Below (w.alloc (.cells #[.int .i64 k, .string t, .int .i64 x, .int .i64 n, .string u, .int .i64 c, s] 46)).heap.size (w.alloc (.cells #[.int .i64 k, .string t, .int .i64 x, .int .i64 n, .string u, .int .i64 c, s] 46)) w2 → Below w.heap.size w w2 := fun w2 h => b0.trans (h.mono b0.size)
  by_cases k1 : k = 1
  · subst k1
    by_cases c0 : c = 0
    · subst c0
      cases he : t.toList.isEmpty with
      | true =>
        have hE2 : E = 9 := by rw [hE']; simp [he]
        subst hE2
        clear gd cU cV HA hz hE' HD fin
        go_enter Tryz.func64, Tryz.ntmps64
        go_wp2
        go_ret
        exact ⟨rfl, b0⟩
      | false =>
        by_cases hz0 : (x, n, u) = z0
        · have hne := neq_pl (x, n, u) (0, 0, ⟨#[]⟩) false (by rw [hz0]; show (!samP z0 z0) = false; rw [samP_self]; rfl)
          have hV0 := hz hz0
          cases U with
          | false =>
            have hE2 : E = 1 := by rw [hE']; simp [he, hz0]
            subst hE2
            clear hz hz0 hV0 cV HA hE' HD
            go_enter Tryz.func64, Tryz.ntmps64
            go_wp2_with fail
            refine (cU.out _).mono ?_; rintro r w2 ⟨rfl, h2⟩
            have b2 := fin _ h2
            go_wp2
            go_ret
            exact ⟨rfl, b2⟩
          | true =>
            have hE2 : E = L := by rw [hE', hV0]; simp [he, hz0]
            subst hE2
            clear hz hz0 hV0 cV hE'
            go_enter Tryz.func64, Tryz.ntmps64
            go_wp2_with fail
            refine (cU.out _).mono ?_; rintro r w2 ⟨rfl, h2⟩
            obtain ⟨p0, p1, p2, p3, p4, p5, p6⟩ := HD.out.below h2
            simp only at p0 p1 p2 p3 p4 p5 p6
            have c2 := HA.out _ h2
            have b2 := fin _ h2
            clear d0 d1 d2 d3 d4 d5 d6 h2
            go_wp2_with fail
            refine c2.mono ?_; rintro r w3 ⟨rfl, h3⟩
            go_wp2
            go_ret
            exact ⟨rfl, b2.trans (h3.mono b2.size)⟩
        · have hne := neq_pl (x, n, u) (0, 0, ⟨#[]⟩) true (by show (!samP (x, n, u) z0) = true; rw [samP_ne hz0]; rfl)
          have hE2 : E = 9 := by rw [hE']; simp [he, hz0]
          subst hE2
          clear hz hz0 cV cU HA hE' HD fin
          go_enter Tryz.func64, Tryz.ntmps64
          go_wp2
          go_ret
          exact ⟨rfl, b0⟩
    · have hc : (c == 0) = false := by simpa using c0
      have hE2 : E = 9 := by rw [hE']; simp [c0]
      subst hE2
      clear hz cV cU HA hE' HD fin c0
      go_enter Tryz.func64, Tryz.ntmps64
      go_wp2
      go_ret
      exact ⟨rfl, b0⟩
  · have hk1 : (k != 1) = true := by simpa using k1
    by_cases k2 : k = 2
    · subst k2
      clear hk1 k1
      by_cases c0 : c = 0
      · subst c0
        cases he : t.toList.isEmpty with
        | true =>
          have hE2 : E = 6 := by rw [hE']; simp [he]
          subst hE2
          clear gd cU cV HA hz hE' HD fin
          go_enter Tryz.func64, Tryz.ntmps64
          go_wp2
          go_ret
          exact ⟨rfl, b0⟩
        | false =>
          by_cases h64 : 64 < t.size
          · have h64I : (64 : Int) < (t.size : Int) := by omega
            have hE2 : E = 6 := by rw [hE']; simp [he, h64]
            subst hE2
            clear gd cU cV HA hz hE' HD fin
            go_enter Tryz.func64, Tryz.ntmps64
            go_wp2
            go_ret
            exact ⟨rfl, b0⟩
          · have h64I : ¬ (64 : Int) < (t.size : Int) := by omega
            cases U with
            | false =>
              have hE2 : E = 1 := by rw [hE']; simp [he, h64]
              subst hE2
              clear hz cV HA hE' HD gd
              go_enter Tryz.func64, Tryz.ntmps64
              go_wp2_with fail
              refine (cU.out _).mono ?_; rintro r w2 ⟨rfl, h2⟩
              have b2 := fin _ h2
              go_wp2
              go_ret
              exact ⟨rfl, b2⟩
            | true =>
              by_cases hV : V = 0
              · have hE2 : E = L := by rw [hE']; simp [he, h64, hV]
                subst hE2
                subst hV
                clear hz hE' gd
                go_enter Tryz.func64, Tryz.ntmps64
                go_wp2_with fail
                refine (cU.out _).mono ?_; rintro r w2 ⟨rfl, h2⟩
                obtain ⟨p0, p1, p2, p3, p4, p5, p6⟩ := HD.out.below h2
                simp only at p0 p1 p2 p3 p4 p5 p6
                clear d0 d1 d2 d3 d4 d5 d6
                go_wp2_with fail
                refine (cV.out _).mono ?_; rintro r w3 ⟨rfl, h3⟩
                have h23 := h2.trans (h3.mono h2.size)
                obtain ⟨q0, q1, q2, q3, q4, q5, q6⟩ := HD.out.below h23
                simp only at q0 q1 q2 q3 q4 q5 q6
                have c2 := HA.out _ h23
                have b3 := fin _ h23
                clear p0 p1 p2 p3 p4 p5 p6 h2 h3 h23
                go_wp2_with fail
                refine c2.mono ?_; rintro r w4 ⟨rfl, h4⟩
                go_wp2
                go_ret
                exact ⟨rfl, b3.trans (h4.mono b3.size)⟩
              · have hE2 : E = V := by rw [hE']; simp [he, h64, hV]
                subst hE2
                have hVI : ((E : Int) == 0) = false := by simp; omega
                clear hz hE' gd HA
                go_enter Tryz.func64, Tryz.ntmps64
                go_wp2_with fail
                refine (cU.out _).mono ?_; rintro r w2 ⟨rfl, h2⟩
                obtain ⟨p0, p1, p2, p3, p4, p5, p6⟩ := HD.out.below h2
                simp only at p0 p1 p2 p3 p4 p5 p6
                clear d0 d1 d2 d3 d4 d5 d6
                go_wp2_with fail
                refine (cV.out _).mono ?_; rintro r w3 ⟨rfl, h3⟩
                have b3 := fin _ (h2.trans (h3.mono h2.size))
                go_wp2
                go_ret
                exact ⟨rfl, b3⟩
      · have hc : (c == 0) = false := by simpa using c0
        have hE2 : E = 9 := by rw [hE']; simp [c0]
        subst hE2
        clear hz cV cU HA hE' HD fin c0 gd
        go_enter Tryz.func64, Tryz.ntmps64
        go_wp2
        go_ret
        exact ⟨rfl, b0⟩
    · have hk2 : (k != 2) = true := by simpa using k2
      have hE2 : E = 5 := by rw [hE']; simp [k1, k2]
      subst hE2
      clear hz cV cU HA hE' HD fin gd k1 k2
      go_enter Tryz.func64, Tryz.ntmps64
      go_wp2
      go_ret
      exact ⟨rfl, b0⟩
end Go.Proofs.YtgimcloadjjefabGreatDoor

/- What vellumref04.Length answers of inserts. -/
namespace Go.Proofs.YtgimcloadjjefabGreatDoor
open Go Go.RowKit Go.Lib
set_option linter.unusedVariables false

set_option maxHeartbeats 1000000 in
theorem refLen4_any (o : Op5) (s : Value) (w : World) (hO : Ins o) (ht : o.t.size ≤ 8388608) :
    Calls Tryz.prog 57 #[opV o s] w fun r w' => r = .returned (.int .i64 (lenO o)) ∧ Below w.heap.size w w' := by
  have b0 := (Below.refl w.heap.size w).alloc (Nat.le_refl _) (.cells (opC o s) 46)
  have c1 := fun W => ref_list o.t W (by omega)
  have hk := hO.kind
  unfold lenO
  obtain ⟨k, t, ⟨x, n, u⟩, c, A⟩ := o
  simp only at hk c1
  simp only [opC] at b0
  rcases hk with ⟨hk, hv⟩ | ⟨hk, hv⟩
  · clear hv
    subst hk
    rw [if_pos rfl]
    obtain ⟨n1, hn1⟩ : ∃ n, (scs t.data.toList).length = n := ⟨_, rfl⟩
    simp only [hn1] at c1 ⊢
    clear hn1
    go_enter Tryz.func57, Tryz.ntmps57
    go_wp2_with fail
    refine (c1 _).mono ?_; rintro r w2 ⟨v, rfl, _, ⟨g, cap, rfl⟩, hb2⟩
    have b2 := b0.trans (hb2.mono b0.size)
    go_wp2
    go_ret
    exact ⟨rfl, b2⟩
  · clear hv
    subst hk
    rw [if_neg (by show ¬ (2 : Int) = 1; decide)]
    go_enter Tryz.func57, Tryz.ntmps57
    go_wp2
    go_ret
    exact ⟨rfl, b0⟩
end Go.Proofs.YtgimcloadjjefabGreatDoor

/- The document's answers for ops: empty, Check, Length, apart. -/
namespace Go.Proofs.YtgimcloadjjefabGreatDoor
open Go Go.RowKit Go.Lib
set_option linter.unusedVariables false

/-- Are the fields empty that a kind doesn't have? -/
def emptyB (o : Op5) : Bool :=
  if o.k = 1 then o.c == 0 && decide (o.v = z0)
  else if o.k = 2 then o.c == 0
  else if o.k = 3 then o.t.toList.isEmpty && decide (o.v = z0)
  else if o.k = 4 then o.t.toList.isEmpty && decide (o.v = z0) && o.A.isEmpty
  else false
theorem opE_ref (o : Op5) : opE o = if emptyB o = false then 9 else if o.k = 1 ∨ o.k = 2 then insE o else if o.c < 1 then 9 else if 1099511627776 < o.c then 11 else if o.k = 3 then listE true none o.A else 0 := by
  unfold opE emptyB cntE
  by_cases k1 : o.k = 1
  · rw [if_pos (Or.inl k1), if_pos k1, if_pos (Or.inl k1)]
    by_cases hb : (o.c == 0 && decide (o.v = z0)) = false
    · rw [if_pos hb]
      have : fldE o = 9 := by
        unfold fldE
        rw [if_neg (fun h => h.1 k1), if_pos]
        by_cases hc : o.c = 0
        · by_cases hv : o.v = z0
          · simp [hc, hv] at hb
          · exact Or.inr ⟨k1, Or.inr hv⟩
        · exact Or.inl hc
      unfold insE
      rw [if_pos (by omega), this]
    · rw [if_neg hb]
  · by_cases k2 : o.k = 2
    · rw [if_pos (Or.inr k2), if_neg k1, if_pos k2, if_pos (Or.inr k2)]
      by_cases hb : (o.c == 0) = false
      · rw [if_pos hb]
        have : fldE o = 9 := by
          unfold fldE
          rw [if_neg (fun h => h.2 k2), if_pos]
          exact Or.inl (by simpa using hb)
        unfold insE
        rw [if_pos (by omega), this]
      · rw [if_neg hb]
    · have h12 : ¬ (o.k = 1 ∨ o.k = 2) := by omega
      rw [if_neg h12, if_neg k1, if_neg k2, if_neg h12]
      by_cases k3 : o.k = 3
      · rw [if_pos k3, if_pos k3, if_pos k3]
        cases ht : o.t.toList.isEmpty <;> by_cases hv : o.v = z0 <;> by_cases h1 : o.c < 1 <;> by_cases h2 : 1099511627776 < o.c <;> simp [hv, h1, h2]
      · rw [if_neg k3, if_neg k3, if_neg k3]
        by_cases k4 : o.k = 4
        · rw [if_pos k4, if_pos k4]
          cases ht : o.t.toList.isEmpty <;> by_cases hv : o.v = z0 <;> cases hA : o.A <;> by_cases h1 : o.c < 1 <;> by_cases h2 : 1099511627776 < o.c <;> simp [hv, h1, h2]
        · rw [if_neg k4, if_neg k4, if_pos rfl]

set_option maxHeartbeats 2000000 in
theorem refEmpty_any (o : Op5) (s : Value) (w : World) (hR : RowA w s o.A) :
    Calls Tryz.prog 63 #[opV o s] w fun r w' => r = .returned (.bool (emptyB o)) ∧ Below w.heap.size w w' := by
  have b0 := (Below.refl w.heap.size w).alloc (Nat.le_refl _) (.cells (opC o s) 46)
  obtain ⟨p, cc, rfl, _⟩ := hR.val
  clear hR
  obtain ⟨n9, hn9⟩ : ∃ m, o.A.length = m := ⟨_, rfl⟩
  have hAe : o.A.isEmpty = decide (n9 = 0) := by
    cases h : o.A with
    | nil => rw [h] at hn9; simp only [List.length_nil] at hn9; subst hn9; rfl
    | cons x r => rw [h] at hn9; simp only [List.length_cons] at hn9; rw [decide_eq_false (by omega)]; rfl
  have hnz : ((n9 : Int) == 0) = decide (n9 = 0) := by rw [Bool.eq_iff_iff]; simp
  rw [hn9] at b0 ⊢
  unfold emptyB
  rw [hAe]
  clear hAe hn9
  obtain ⟨k, t, ⟨x, n, u⟩, c, A⟩ := o
  simp only [opC] at b0 ⊢
  have gd := fun op x' y' w => guard_pl op x' y' (x, n, u) (0, 0, ⟨#[]⟩) w
  obtain ⟨bv, hbv⟩ : ∃ b, decide (((x, n, u) : P3) = z0) = b := ⟨_, rfl⟩
  have hne := eql_pl (x, n, u) (0, 0, ⟨#[]⟩) bv (by
    rw [← hbv]
    by_cases h : ((x, n, u) : P3) = z0
    · rw [decide_eq_true h, h]; exact samP_self _
    · rw [decide_eq_false h]; exact samP_ne h)
  rw [hbv]
  clear hbv
  by_cases k1 : k = 1
  · subst k1
    rw [if_pos rfl]
    clear hnz
    cases hc : (c == 0) with
    | false =>
      go_enter Tryz.func63, Tryz.ntmps63
      go_wp2
      go_ret
      exact ⟨rfl, b0⟩
    | true =>
      go_enter Tryz.func63, Tryz.ntmps63
      go_wp2
      go_ret
      exact ⟨rfl, b0⟩
  · have e1 : (k == 1) = false := by simpa using k1
    rw [if_neg k1]
    by_cases k2 : k = 2
    · subst k2
      rw [if_pos rfl]
      clear hnz hne gd
      go_enter Tryz.func63, Tryz.ntmps63
      go_wp2
      go_ret
      exact ⟨rfl, b0⟩
    · have e2 : (k == 2) = false := by simpa using k2
      rw [if_neg k2]
      by_cases k3 : k = 3
      · subst k3
        rw [if_pos rfl]
        clear hnz e1 e2
        cases ht : t.toList.isEmpty with
        | false =>
          go_enter Tryz.func63, Tryz.ntmps63
          go_wp2
          go_ret
          exact ⟨rfl, b0⟩
        | true =>
          go_enter Tryz.func63, Tryz.ntmps63
          go_wp2
          go_ret
          exact ⟨rfl, b0⟩
      · have e3 : (k == 3) = false := by simpa using k3
        rw [if_neg k3]
        by_cases k4 : k = 4
        · subst k4
          rw [if_pos rfl]
          clear e1 e2 e3
          cases ht : t.toList.isEmpty with
          | false =>
            go_enter Tryz.func63, Tryz.ntmps63
            go_wp2
            go_ret
            exact ⟨rfl, b0⟩
          | true =>
            cases bv with
            | false =>
              go_enter Tryz.func63, Tryz.ntmps63
              go_wp2
              go_ret
              exact ⟨rfl, b0⟩
            | true =>
              go_enter Tryz.func63, Tryz.ntmps63
              go_wp2
              go_ret
              exact ⟨rfl, b0⟩
        · have e4 : (k == 4) = false := by simpa using k4
          rw [if_neg k4]
          clear hnz hne gd
          go_enter Tryz.func63, Tryz.ntmps63
          go_wp2
          go_ret
          exact ⟨rfl, b0⟩

set_option maxHeartbeats 2000000 in
theorem refCheckO_any {I : List Nat} {a : Nat → Addr} (o : Op5) (s : Value) (w : World) (hS : Std I a w) (hR : RN w s o.A) (hF : Fit o) :
    Calls Tryz.prog 56 #[opV o s] w fun r w' => r = .returned (.int .i64 (opE o)) ∧ Below w.heap.size w w' := by
  have b0 := (Below.refl w.heap.size w).alloc (Nat.le_refl _) (.cells (opC o s) 46)
  have D0 := BoxO.new w o s
  have c1 := refEmpty_any o s _ (hR.row.below b0)
  have cI : Hid (∀ W, Below (w.alloc (.cells (opC o s) 46)).heap.size (w.alloc (.cells (opC o s) 46)) W → Calls Tryz.prog 64 #[opV o s] W fun r w' => r = .returned (.int .i64 (insE o)) ∧ Below W.heap.size W w') := fun W hW => ref_ins o s W ((hS.below b0).below hW) ((hR.below b0).below hW) hF
  have cA : Hid (∀ W, Below (w.alloc (.cells (opC o s) 46)).heap.size (w.alloc (.cells (opC o s) 46)) W → Calls Tryz.prog 65 #[s, .bool true] W fun r w' => r = .returned (.int .i64 (listE true none o.A)) ∧ Below W.heap.size W w') := fun W hW => ref_check s o.A true W ((hS.below b0).below hW) ((hR.row.below b0).below hW) hF.tiny (by have := hF.n; omega)
  have hE := opE_ref o
  obtain ⟨E, hEE⟩ : ∃ E, opE o = E := ⟨_, rfl⟩
  obtain ⟨i9, hi9⟩ : ∃ i, insE o = i := ⟨_, rfl⟩
  obtain ⟨l9, hl9⟩ : ∃ l, listE true none o.A = l := ⟨_, rfl⟩
  obtain ⟨eb, heb⟩ : ∃ l, emptyB o = l := ⟨_, rfl⟩
  rw [hEE, hi9, hl9, heb] at hE
  rw [hEE]
  rw [hi9] at cI
  rw [hl9] at cA
  rw [heb] at c1
  clear hS hR hF hEE hi9 hl9 heb
  have HD : Hid (BoxO (w.alloc (.cells (opC o s) 46)) w.heap.size o s) := D0
  obtain ⟨k, t, ⟨x, n, u⟩, c, A⟩ := o
  simp only [opC] at b0 c1 cI cA HD hE
  clear D0
  cases eb with
  | false =>
    rw [if_pos rfl] at hE
    subst hE
    clear cI cA HD
    go_enter Tryz.func56, Tryz.ntmps56
    go_wp2_with fail
    refine c1.mono ?_; rintro r w2 ⟨rfl, hb2⟩
    have b2 := b0.trans (hb2.mono b0.size)
    clear c1 b0 hb2
    go_wp2
    go_ret
    exact ⟨rfl, b2⟩
  | true =>
    rw [if_neg (by simp)] at hE
    by_cases k1 : k = 1
    · rw [if_pos (Or.inl k1)] at hE
      subst hE k1
      go_enter Tryz.func56, Tryz.ntmps56
      go_wp2_with fail
      refine c1.mono ?_; rintro r w2 ⟨rfl, hb2⟩
      have b2 := b0.trans (hb2.mono b0.size)
      obtain ⟨d0, d1, d2, d3, d4, d5, d6⟩ := HD.out.below hb2
      simp only at d0 d1 d2 d3 d4 d5 d6
      have c2 := cI.out _ hb2
      clear c1 b0 hb2
      go_wp2_with fail
      refine c2.mono ?_; rintro r w3 ⟨rfl, hb3⟩
      have b3 := b2.trans (hb3.mono b2.size)
      clear c2 b2 hb3
      go_wp2
      go_ret
      exact ⟨rfl, b3⟩
    · have e1 : (k == 1) = false := by simpa using k1
      by_cases k2 : k = 2
      · rw [if_pos (Or.inr k2)] at hE
        subst hE k2
        clear k1 e1
        go_enter Tryz.func56, Tryz.ntmps56
        go_wp2_with fail
        refine c1.mono ?_; rintro r w2 ⟨rfl, hb2⟩
        have b2 := b0.trans (hb2.mono b0.size)
        obtain ⟨d0, d1, d2, d3, d4, d5, d6⟩ := HD.out.below hb2
        simp only at d0 d1 d2 d3 d4 d5 d6
        have c2 := cI.out _ hb2
        clear c1 b0 hb2
        go_wp2_with fail
        refine c2.mono ?_; rintro r w3 ⟨rfl, hb3⟩
        have b3 := b2.trans (hb3.mono b2.size)
        clear c2 b2 hb3
        go_wp2
        go_ret
        exact ⟨rfl, b3⟩
      · have e2 : (k == 2) = false := by simpa using k2
        rw [if_neg (by omega)] at hE
        by_cases h1 : c < 1
        · rw [if_pos h1] at hE
          subst hE
          clear cI cA
          go_enter Tryz.func56, Tryz.ntmps56
          go_wp2_with fail
          refine c1.mono ?_; rintro r w2 ⟨rfl, hb2⟩
          have b2 := b0.trans (hb2.mono b0.size)
          obtain ⟨d0, d1, d2, d3, d4, d5, d6⟩ := HD.out.below hb2
          simp only at d0 d1 d2 d3 d4 d5 d6
          clear c1 b0 hb2
          go_wp2
          go_ret
          exact ⟨rfl, b2⟩
        · rw [if_neg h1] at hE
          by_cases h2 : 1099511627776 < c
          · rw [if_pos h2] at hE
            subst hE
            clear cI cA
            go_enter Tryz.func56, Tryz.ntmps56
            go_wp2_with fail
            refine c1.mono ?_; rintro r w2 ⟨rfl, hb2⟩
            have b2 := b0.trans (hb2.mono b0.size)
            obtain ⟨d0, d1, d2, d3, d4, d5, d6⟩ := HD.out.below hb2
            simp only at d0 d1 d2 d3 d4 d5 d6
            clear c1 b0 hb2
            go_wp2
            go_ret
            exact ⟨rfl, b2⟩
          · rw [if_neg h2] at hE
            by_cases k3 : k = 3
            · rw [if_pos k3] at hE
              subst hE k3
              clear cI k1 k2 e1 e2
              go_enter Tryz.func56, Tryz.ntmps56
              go_wp2_with fail
              refine c1.mono ?_; rintro r w2 ⟨rfl, hb2⟩
              have b2 := b0.trans (hb2.mono b0.size)
              obtain ⟨d0, d1, d2, d3, d4, d5, d6⟩ := HD.out.below hb2
              simp only at d0 d1 d2 d3 d4 d5 d6
              have c2 := cA.out _ hb2
              clear c1 b0 hb2
              go_wp2_with fail
              refine c2.mono ?_; rintro r w3 ⟨rfl, hb3⟩
              have b3 := b2.trans (hb3.mono b2.size)
              clear c2 b2 hb3
              go_wp2
              go_ret
              exact ⟨rfl, b3⟩
            · have e3 : (k == 3) = false := by simpa using k3
              rw [if_neg k3] at hE
              subst hE
              clear cI cA
              go_enter Tryz.func56, Tryz.ntmps56
              go_wp2_with fail
              refine c1.mono ?_; rintro r w2 ⟨rfl, hb2⟩
              have b2 := b0.trans (hb2.mono b0.size)
              obtain ⟨d0, d1, d2, d3, d4, d5, d6⟩ := HD.out.below hb2
              simp only at d0 d1 d2 d3 d4 d5 d6
              clear c1 b0 hb2
              go_wp2
              go_ret
              exact ⟨rfl, b2⟩
set_option maxHeartbeats 1000000 in
theorem refLenO_any (o : Op5) (s : Value) (w : World) (hg : opE o = 0) (hF : Fit o) :
    Calls Tryz.prog 48 #[opV o s] w fun r w' => r = .returned (.int .i64 (len5 o)) ∧ Below w.heap.size w w' := by
  have b0 := (Below.refl w.heap.size w).alloc (Nat.le_refl _) (.cells (opC o s) 46)
  have cI : o.k = 1 ∨ o.k = 2 → Calls Tryz.prog 57 #[opV o s] (w.alloc (.cells (opC o s) 46)) fun r w' => r = .returned (.int .i64 (lenO o)) ∧ Below (w.alloc (.cells (opC o s) 46)).heap.size (w.alloc (.cells (opC o s) 46)) w' := fun hk => by
    rcases op_good hg with ⟨hi, _⟩ | ⟨_, _, h3⟩ | ⟨_, _, h4⟩
    · exact refLen4_any o s _ hi hF.t
    · omega
    · omega
  unfold len5
  obtain ⟨L, hL⟩ : ∃ L : Int, (lenO o : Int) = L := ⟨_, rfl⟩
  rw [hL] at cI ⊢
  clear hg hF hL
  obtain ⟨k, t, ⟨x, n, u⟩, c, A⟩ := o
  simp only [opC] at b0 cI ⊢
  by_cases k1 : k = 1
  · rw [if_pos (Or.inl k1)]
    have c1 := cI (Or.inl k1)
    subst k1
    clear cI
    go_enter Tryz.func48, Tryz.ntmps48
    go_wp2_with fail
    refine c1.mono ?_; rintro r w2 ⟨rfl, hb2⟩
    have b2 := b0.trans (hb2.mono b0.size)
    clear c1 b0 hb2
    go_wp2
    go_ret
    exact ⟨rfl, b2⟩
  · have e1 : (k == 1) = false := by simpa using k1
    by_cases k2 : k = 2
    · rw [if_pos (Or.inr k2)]
      have c1 := cI (Or.inr k2)
      subst k2
      clear cI
      go_enter Tryz.func48, Tryz.ntmps48
      go_wp2_with fail
      refine c1.mono ?_; rintro r w2 ⟨rfl, hb2⟩
      have b2 := b0.trans (hb2.mono b0.size)
      clear c1 b0 hb2
      go_wp2
      go_ret
      exact ⟨rfl, b2⟩
    · have e2 : (k == 2) = false := by simpa using k2
      rw [if_neg (by omega)]
      clear cI
      go_enter Tryz.func48, Tryz.ntmps48
      go_wp2
      go_ret
      exact ⟨rfl, b0⟩
set_option maxHeartbeats 1000000 in
theorem refApart_any (o o' : Op5) (s s' : Value) (w : World) (hA : RowA w s o.A) (hB : RowA w s' o'.A) (hl : o.A.length ≤ 4194304) (hl2 : o'.A.length ≤ 4194304) :
    Calls Tryz.prog 37 #[opV o s, opV o' s'] w fun r w' => r = .returned (.bool (apartB o o')) ∧ Below w.heap.size w w' := by
  have b0 := ((Below.refl w.heap.size w).alloc (Nat.le_refl _) (.cells (opC o s) 46)).alloc (by simp) (.cells (opC o' s') 46)
  have cS := from_below b0 (sameAttrs_any s s' o.A o'.A _ (hA.below b0) (hB.below b0) (by omega) (by omega))
  obtain ⟨pa, ca, rfl, _⟩ := hA.val
  obtain ⟨pb, cb, rfl, _⟩ := hB.val
  unfold apartB
  obtain ⟨q, hq⟩ : ∃ q, decide (o.A = o'.A) = q := ⟨_, rfl⟩
  rw [hq] at cS ⊢
  obtain ⟨k, t, ⟨x, n, u⟩, c, A⟩ := o
  obtain ⟨k', t', ⟨x', n', u'⟩, c', A'⟩ := o'
  simp only [opC] at b0 cS hq ⊢
  clear hA hB hl hl2 hq
  by_cases k4 : k = 4
  · subst k4
    rw [if_pos rfl]
    clear cS
    go_enter Tryz.func37, Tryz.ntmps37
    go_wp2
    go_ret
    exact ⟨rfl, b0⟩
  · have e4 : (k == 4) = false := by simpa using k4
    rw [if_neg k4]
    by_cases hkk : k = k'
    · subst hkk
      by_cases k2 : k = 2
      · subst k2
        rw [if_pos (Or.inr rfl)]
        clear cS
        go_enter Tryz.func37, Tryz.ntmps37
        go_wp2
        go_ret
        exact ⟨rfl, b0⟩
      · have e2 : (k == 2) = false := by simpa using k2
        rw [if_neg (by simp [k2])]
        go_enter Tryz.func37, Tryz.ntmps37
        go_wp2_with fail
        refine cS.mono ?_; rintro r w2 ⟨rfl, hb2⟩
        go_wp2
        go_ret
        exact ⟨rfl, hb2⟩
    · have e5 : (k != k') = true := by simpa using hkk
      rw [if_pos (Or.inl hkk)]
      clear cS
      go_enter Tryz.func37, Tryz.ntmps37
      go_wp2
      go_ret
      exact ⟨rfl, b0⟩
end Go.Proofs.YtgimcloadjjefabGreatDoor

/- The document's answers for lists of operations: Bad, Lengths, Canonical. -/
namespace Go.Proofs.YtgimcloadjjefabGreatDoor
open Go Go.RowKit Go.Lib
set_option linter.unusedVariables false

set_option maxHeartbeats 2000000 in
set_option maxRecDepth 100000 in
theorem refBad_any {I : List Nat} {a : Nat → Addr} (v : Value) (E : List Op5) (w : World) (hS : Std I a w) (hv : ReO w v E) (hF : FitL E) (hl : E.length ≤ 1048576) :
    Calls Tryz.prog 47 #[v] w fun r w' => r = .returned (.tuple #[.int .i64 (badP E).1, .int .i64 (badP E).2]) ∧ Below w.heap.size w w' := by
  obtain ⟨D0, hrow, hre⟩ := hv
  have hDE := forall2_len hre
  obtain ⟨n, hn⟩ : ∃ n, D0.length = n := ⟨_, rfl⟩
  obtain ⟨p, cap, rfl, hcap, hnz, hc⟩ := hrow
  have HC : Hid (∀ (j : Nat) (d : OV), D0[j]? = some d → ∃ b off, p = some ⟨b, off, none⟩ ∧ OpAt w b (off + j * 7) d) := hc
  have HN : Hid (D0.length = n ∧ E.length = n) := ⟨hn, by rw [← hDE, hn]⟩
  have hl : n ≤ 1048576 := by rw [← hn, hDE]; exact hl
  have HK : Hid (∀ (k : Nat) d, D0[k]? = some d → ∃ e, E[k]? = some e ∧ ∀ W, Below w.heap.size w W → Calls Tryz.prog 56 #[ovV d] W fun r w' => r = .returned (.int .i64 (opE e)) ∧ Below W.heap.size W w') := fun k d h1 => by
    obtain ⟨y, hy, r1⟩ := forall2_get hre k d h1
    have fy := hF y (List.mem_of_getElem? hy)
    refine ⟨y, hy, fun W hW => ?_⟩
    rw [opV_of r1]
    exact refCheckO_any y _ W (hS.below hW) (r1.2.2.2.2.below hW) fy
  rw [hn] at hcap ⊢
  clear hc hn hDE hre hnz hF hS
  go_enter Tryz.func47, Tryz.ntmps47
  go_wp2
  go_loopw [4, 5] (fun i _ wr => ∃ (k : Nat), k ≤ n ∧ i = .int .i64 k ∧ Hid (∀ x ∈ E.take k, opE x = 0) ∧ Below w.heap.size w wr) (fun i _ _ => n - (RowKit.intOf i).toNat)
  case atStart => exact ⟨0, Nat.zero_le _, rfl, fun x hx => by simp at hx, Below.refl _ _⟩
  case round =>
    obtain ⟨k, hk, rfl, HG, hbw⟩ := hrel
    by_cases hlt : k < n
    · have hltI : (k : Int) < n := by omega
      obtain ⟨d, hd⟩ : ∃ d, D0[k]? = some d := ⟨_, List.getElem?_eq_getElem (by rw [HN.out.1]; exact hlt)⟩
      obtain ⟨e, he, cc⟩ := HK.out k d hd
      obtain ⟨b, off, rfl, hp⟩ := HC.out k d hd
      obtain ⟨c0, c1, c2, c3, c4, c5, c6⟩ := hp.below hbw
      have c9 := cc _ hbw
      have HT : Hid (E.take (k + 1) = E.take k ++ [e] ∧ E[k]? = some e) := by refine ⟨?_, he⟩; rw [List.take_add_one, he]; rfl
      clear hp hd he cc
      obtain ⟨dk, dt, ⟨dx, dn, du⟩, dc, ds⟩ := d
      obtain ⟨dp, dl, dcap⟩ := ds
      simp only [slV] at c0 c1 c2 c3 c4 c5 c6
      simp only [ovV, ovC, slV] at c9
      cases hg : opE e with
      | zero =>
        rw [hg] at c9
        have hz : (((0 : Nat) : Int) != 0) = false := by decide
        have HG' : Hid (∀ x ∈ E.take (k + 1), opE x = 0) := fun x hx => by
          rw [HT.out.1, List.mem_append] at hx
          rcases hx with hx | hx
          · exact HG.out x hx
          · rw [List.mem_singleton.1 hx]; exact hg
        clear hg HG HT
        go_wp2_with fail
        refine c9.mono ?_; rintro r w5 ⟨rfl, hb5⟩
        have b5 := hbw.trans (hb5.mono hbw.size)
        clear c9 hb5 c0 c1 c2 c3 c4 c5 c6
        go_wp2
        go_roundw
        case rel => exact ⟨k + 1, by omega, by go_num, HG', b5⟩
        case measure => simp [RowKit.intOf]; omega
      | succ x =>
        have HB : Hid (badP E = (k, x + 1)) := by
          have := bad_at HT.out.2 HG.out (by omega)
          rw [hg] at this; exact this
        rw [hg] at c9
        obtain ⟨z, hz⟩ : ∃ z : Int, ((x + 1 : Nat) : Int) = z := ⟨_, rfl⟩
        have hz0 : (z != 0) = true := by rw [← hz, bne_iff_ne]; omega
        rw [hz] at c9
        have HZ : Hid (((x + 1 : Nat) : Int) = z) := hz
        clear hg HG HT hz
        go_wp2_with fail
        refine c9.mono ?_; rintro r w5 ⟨rfl, hb5⟩
        have b5 := hbw.trans (hb5.mono hbw.size)
        clear c9 hb5 c0 c1 c2 c3 c4 c5 c6
        go_wp2
        go_ret2
        exact ⟨by rw [HB.out]; simp only []; rw [HZ.out]; rfl, b5⟩
    · have hltI : ¬ (k : Int) < n := by omega
      have HB : Hid (badP E = (0, 0)) := bad_none (by have := HG.out; rwa [List.take_of_length_le (by rw [HN.out.2]; omega)] at this)
      go_wp2
      go_ret2
      exact ⟨by rw [HB.out]; rfl, hbw⟩

set_option maxHeartbeats 4000000 in
set_option maxRecDepth 100000 in
theorem refLens_any {I : List Nat} {a : Nat → Addr} (v : Value) (E : List Op5) (w : World) (hS : Std I a w) (hv : ReO w v E) (hF : FitL E) (hl : E.length ≤ 1048576) :
    Calls Tryz.prog 36 #[v] w fun r w' => r = .returned (.tuple #[.int .i64 (lensL E).1, .int .i64 (lensL E).2.1, .int .i64 (lensL E).2.2]) ∧ Below w.heap.size w w' := by
  have c1 := refBad_any v E w hS hv hF hl
  obtain ⟨D0, hrow, hre⟩ := hv
  have hDE := forall2_len hre
  obtain ⟨n, hn⟩ : ∃ n, D0.length = n := ⟨_, rfl⟩
  obtain ⟨p, cap, rfl, hcap, hnz, hc⟩ := hrow
  rw [hn] at hcap c1 ⊢
  unfold lensL
  cases hb : (badP E).2 with
  | succ x =>
    rw [if_pos (by omega)]
    obtain ⟨z, hz⟩ : ∃ z : Int, ((x + 1 : Nat) : Int) = z := ⟨_, rfl⟩
    have hz0 : (z != 0) = true := by rw [← hz, bne_iff_ne]; omega
    obtain ⟨i1, hi1⟩ : ∃ i : Int, ((badP E).1 : Int) = i := ⟨_, rfl⟩
    simp only []
    rw [hb, hz, hi1] at c1
    rw [hz]
    clear hc hn hDE hre hnz hF hS hb hz hi1 hl
    go_enter Tryz.func36, Tryz.ntmps36
    go_wp2_with fail
    refine c1.mono ?_; rintro r w2 ⟨rfl, hb2⟩
    clear c1
    go_wp2
    go_ret3
    exact ⟨rfl, hb2⟩
  | zero =>
    rw [if_neg (by simp)]
    have hg : ∀ o ∈ E, opE o = 0 := bad_zero.1 hb
    have HC : Hid (∀ (j : Nat) (d : OV), D0[j]? = some d → ∃ b off, p = some ⟨b, off, none⟩ ∧ OpAt w b (off + j * 7) d) := hc
    have HN : Hid (D0.length = n ∧ E.length = n) := ⟨hn, by rw [← hDE, hn]⟩
    have hl : n ≤ 1048576 := by rw [← hn, hDE]; exact hl
    have HK : Hid (∀ (k : Nat) d, D0[k]? = some d → ∃ e, E[k]? = some e ∧ d.1 = e.k ∧ opE e = 0 ∧ Fit e ∧ ∀ W, Below w.heap.size w W → Calls Tryz.prog 48 #[ovV d] W fun r w' => r = .returned (.int .i64 (len5 e)) ∧ Below W.heap.size W w') := fun k d h1 => by
      obtain ⟨y, hy, r1⟩ := forall2_get hre k d h1
      have fy := hF y (List.mem_of_getElem? hy)
      have gy := hg y (List.mem_of_getElem? hy)
      refine ⟨y, hy, r1.1, gy, fy, fun W hW => ?_⟩
      rw [opV_of r1]
      exact refLenO_any y _ W gy fy
    obtain ⟨b9, r9, e9, h9⟩ : ∃ b r e, sumL 0 0 E = (b, r, e) := ⟨_, _, _, rfl⟩
    rw [h9]
    have H9 : Hid (sumL 0 0 (E.drop 0) = (b9, r9, e9)) := by show _ = _; rw [List.drop_zero]; exact h9
    obtain ⟨i1, hi1⟩ : ∃ i : Int, ((badP E).1 : Int) = i := ⟨_, rfl⟩
    rw [hb, hi1] at c1
    have hz0 : (((0 : Nat) : Int) != 0) = false := by decide
    clear hc hn hDE hre hnz hF hS hb hi1 hg h9
    go_enter Tryz.func36, Tryz.ntmps36
    go_wp2_with fail
    refine c1.mono ?_; rintro r w2 ⟨rfl, hb2⟩
    clear c1
    go_wp2
    go_loopw [7, 8, 9, 10] (fun bs rs i _ wr => ∃ (k : Nat) (b r : Int), k ≤ n ∧ i = .int .i64 k ∧ bs = .int .i64 b ∧ rs = .int .i64 r ∧ 0 ≤ b ∧ b ≤ 1099511627776 ∧ 0 ≤ r ∧ r ≤ 1099511627776 ∧ Hid (sumL b r (E.drop k) = (b9, r9, e9)) ∧ Below w.heap.size w wr) (fun _ _ i _ _ => n - (RowKit.intOf i).toNat)
    case atStart => exact ⟨0, 0, 0, Nat.zero_le _, rfl, rfl, rfl, by omega, by omega, by omega, by omega, H9, hb2⟩
    case round =>
      clear H9 hb2
      obtain ⟨k, b, r, hk, rfl, rfl, rfl, h1, h2, h3, h4, HS, hbw⟩ := hrel
      by_cases hlt : k < n
      · have hltI : (k : Int) < n := by omega
        obtain ⟨d, hd⟩ : ∃ d, D0[k]? = some d := ⟨_, List.getElem?_eq_getElem (by rw [HN.out.1]; exact hlt)⟩
        obtain ⟨e, he, hdk, hge, hfe, cc⟩ := HK.out k d hd
        obtain ⟨b0, off, rfl, hp⟩ := HC.out k d hd
        have hpw := hp.below hbw
        obtain ⟨c0, c1, c2, c3, c4, c5, c6⟩ := hpw
        have c9 := cc _ hbw
        have HP : Hid (OpAt w b0 (off + k * 7) d) := hp
        have hL := len5_range hge hfe
        have hkk := kinds_of hge
        have hdr : E.drop k = e :: E.drop (k + 1) := by
          have hlt' : k < E.length := (List.getElem?_eq_some_iff.1 he).1
          rw [List.drop_eq_getElem_cons hlt']
          congr 1
          rw [List.getElem?_eq_getElem hlt'] at he
          exact Option.some.inj he
        have HS' := HS.out
        rw [hdr, sumL] at HS'
        unfold baseO resO at HS'
        obtain ⟨L, hLL⟩ : ∃ L, len5 e = L := ⟨_, rfl⟩
        rw [hLL] at c9 hL HS'
        obtain ⟨hL1, hL2⟩ := hL
        obtain ⟨dk, dt, ⟨dx, dn, du⟩, dc, ds⟩ := d
        obtain ⟨dp, dl, dcap⟩ := ds
        simp only at hdk
        rw [← hdk] at HS' hkk
        simp only [slV] at c0 c1 c2 c3 c4 c5 c6
        simp only [ovV, ovC, slV] at c9
        clear hp hd he cc hge hfe hdr hLL hdk HS
        rcases hkk with rfl | rfl | rfl | rfl
        all_goals first
          | rw [if_neg (show ¬ ((1 : Int) = 3 ∨ (1 : Int) = 4) by omega), if_neg (show ¬ ((1 : Int) = 4) by omega)] at HS'
          | rw [if_neg (show ¬ ((2 : Int) = 3 ∨ (2 : Int) = 4) by omega), if_neg (show ¬ ((2 : Int) = 4) by omega)] at HS'
          | rw [if_pos (show ((3 : Int) = 3 ∨ (3 : Int) = 4) by omega), if_neg (show ¬ ((3 : Int) = 4) by omega)] at HS'
          | rw [if_pos (show ((4 : Int) = 3 ∨ (4 : Int) = 4) by omega), if_pos (show ((4 : Int) = 4) by omega)] at HS'
        all_goals try rw [Int.add_zero] at HS'
        · -- a text
          have d1 : decide (1099511627776 < b) = false := decide_eq_false (by omega)
          by_cases hov : 1099511627776 < r + L
          · have d2 : decide (1099511627776 < r + L) = true := decide_eq_true hov
            rw [if_pos (Or.inr hov)] at HS'
            simp only [Prod.mk.injEq] at HS'
            obtain ⟨rfl, rfl, rfl⟩ := HS'
            go_wp2_with fail
            refine c9.mono ?_; rintro r1 w5 ⟨rfl, hb5⟩
            have b5 := hbw.trans (hb5.mono hbw.size)
            have q0 := (HP.out.below b5).c0
            clear c9 hb5 c0 c1 c2 c3 c4 c5 c6
            go_wp2
            go_ret3
            exact ⟨rfl, b5⟩
          · have d2 : decide (1099511627776 < r + L) = false := decide_eq_false hov
            rw [if_neg (by omega)] at HS'
            have HS2 : Hid _ := HS'
            clear HS'
            go_wp2_with fail
            refine c9.mono ?_; rintro r1 w5 ⟨rfl, hb5⟩
            have b5 := hbw.trans (hb5.mono hbw.size)
            have q0 := (HP.out.below b5).c0
            clear c9 hb5 c0 c1 c2 c3 c4 c5 c6
            go_wp2
            go_roundw
            case rel => exact ⟨k + 1, b, r + L, by omega, by go_num, rfl, rfl, by omega, by omega, by omega, by omega, HS2, b5⟩
            case measure => simp [RowKit.intOf]; omega
        · -- an embed
          have d1 : decide (1099511627776 < b) = false := decide_eq_false (by omega)
          by_cases hov : 1099511627776 < r + L
          · have d2 : decide (1099511627776 < r + L) = true := decide_eq_true hov
            rw [if_pos (Or.inr hov)] at HS'
            simp only [Prod.mk.injEq] at HS'
            obtain ⟨rfl, rfl, rfl⟩ := HS'
            go_wp2_with fail
            refine c9.mono ?_; rintro r1 w5 ⟨rfl, hb5⟩
            have b5 := hbw.trans (hb5.mono hbw.size)
            have q0 := (HP.out.below b5).c0
            clear c9 hb5 c0 c1 c2 c3 c4 c5 c6
            go_wp2
            go_ret3
            exact ⟨rfl, b5⟩
          · have d2 : decide (1099511627776 < r + L) = false := decide_eq_false hov
            rw [if_neg (by omega)] at HS'
            have HS2 : Hid _ := HS'
            clear HS'
            go_wp2_with fail
            refine c9.mono ?_; rintro r1 w5 ⟨rfl, hb5⟩
            have b5 := hbw.trans (hb5.mono hbw.size)
            have q0 := (HP.out.below b5).c0
            clear c9 hb5 c0 c1 c2 c3 c4 c5 c6
            go_wp2
            go_roundw
            case rel => exact ⟨k + 1, b, r + L, by omega, by go_num, rfl, rfl, by omega, by omega, by omega, by omega, HS2, b5⟩
            case measure => simp [RowKit.intOf]; omega
        · -- a retain
          by_cases hov1 : 1099511627776 < b + L
          · have d1 : decide (1099511627776 < b + L) = true := decide_eq_true hov1
            rw [if_pos (Or.inl hov1)] at HS'
            simp only [Prod.mk.injEq] at HS'
            obtain ⟨rfl, rfl, rfl⟩ := HS'
            go_wp2_with fail
            refine c9.mono ?_; rintro r1 w5 ⟨rfl, hb5⟩
            have b5 := hbw.trans (hb5.mono hbw.size)
            have q0 := (HP.out.below b5).c0
            clear c9 hb5 c0 c1 c2 c3 c4 c5 c6
            go_wp2
            go_ret3
            exact ⟨rfl, b5⟩
          · have d1 : decide (1099511627776 < b + L) = false := decide_eq_false hov1
            by_cases hov : 1099511627776 < r + L
            · have d2 : decide (1099511627776 < r + L) = true := decide_eq_true hov
              rw [if_pos (Or.inr hov)] at HS'
              simp only [Prod.mk.injEq] at HS'
              obtain ⟨rfl, rfl, rfl⟩ := HS'
              go_wp2_with fail
              refine c9.mono ?_; rintro r1 w5 ⟨rfl, hb5⟩
              have b5 := hbw.trans (hb5.mono hbw.size)
              have q0 := (HP.out.below b5).c0
              clear c9 hb5 c0 c1 c2 c3 c4 c5 c6
              go_wp2
              go_ret3
              exact ⟨rfl, b5⟩
            · have d2 : decide (1099511627776 < r + L) = false := decide_eq_false hov
              rw [if_neg (by omega)] at HS'
              have HS2 : Hid _ := HS'
              clear HS'
              go_wp2_with fail
              refine c9.mono ?_; rintro r1 w5 ⟨rfl, hb5⟩
              have b5 := hbw.trans (hb5.mono hbw.size)
              have q0 := (HP.out.below b5).c0
              clear c9 hb5 c0 c1 c2 c3 c4 c5 c6
              go_wp2
              go_roundw
              case rel => exact ⟨k + 1, b + L, r + L, by omega, by go_num, rfl, rfl, by omega, by omega, by omega, by omega, HS2, b5⟩
              case measure => simp [RowKit.intOf]; omega
        · -- a delete
          have d2 : decide (1099511627776 < r) = false := decide_eq_false (by omega)
          by_cases hov : 1099511627776 < b + L
          · have d1 : decide (1099511627776 < b + L) = true := decide_eq_true hov
            rw [if_pos (Or.inl hov)] at HS'
            simp only [Prod.mk.injEq] at HS'
            obtain ⟨rfl, rfl, rfl⟩ := HS'
            go_wp2_with fail
            refine c9.mono ?_; rintro r1 w5 ⟨rfl, hb5⟩
            have b5 := hbw.trans (hb5.mono hbw.size)
            have q0 := (HP.out.below b5).c0
            clear c9 hb5 c0 c1 c2 c3 c4 c5 c6
            go_wp2
            go_ret3
            exact ⟨rfl, b5⟩
          · have d1 : decide (1099511627776 < b + L) = false := decide_eq_false hov
            rw [if_neg (by omega)] at HS'
            have HS2 : Hid _ := HS'
            clear HS'
            go_wp2_with fail
            refine c9.mono ?_; rintro r1 w5 ⟨rfl, hb5⟩
            have b5 := hbw.trans (hb5.mono hbw.size)
            have q0 := (HP.out.below b5).c0
            clear c9 hb5 c0 c1 c2 c3 c4 c5 c6
            go_wp2
            go_roundw
            case rel => exact ⟨k + 1, b + L, r, by omega, by go_num, rfl, rfl, by omega, by omega, by omega, by omega, HS2, b5⟩
            case measure => simp [RowKit.intOf]; omega
      · have hltI : ¬ (k : Int) < n := by omega
        have HS' := HS.out
        rw [List.drop_eq_nil_of_le (by rw [HN.out.2]; omega), sumL] at HS'
        simp only [Prod.mk.injEq] at HS'
        obtain ⟨rfl, rfl, rfl⟩ := HS'
        clear HS
        go_wp2
        go_ret3
        exact ⟨rfl, hbw⟩
end Go.Proofs.YtgimcloadjjefabGreatDoor

/- The document's Canonical. -/
namespace Go.Proofs.YtgimcloadjjefabGreatDoor
open Go Go.RowKit Go.Lib
set_option linter.unusedVariables false

set_option maxHeartbeats 4000000 in
set_option maxRecDepth 100000 in
theorem refCanon_any {I : List Nat} {a : Nat → Addr} (v : Value) (E : List Op5) (w : World) (hS : Std I a w) (hv : ReO w v E) (hF : FitL E) (hl : E.length ≤ 1048576) :
    Calls Tryz.prog 21 #[v] w fun r w' => r = .returned (.bool (canonB E)) ∧ Below w.heap.size w w' := by
  have c1 := refLens_any v E w hS hv hF hl
  obtain ⟨D0, hrow, hre⟩ := hv
  have hDE := forall2_len hre
  obtain ⟨n, hn⟩ : ∃ n, D0.length = n := ⟨_, rfl⟩
  obtain ⟨p, cap, rfl, hcap, hnz, hc⟩ := hrow
  rw [hn] at hcap c1 ⊢
  obtain ⟨x9, hx9⟩ : ∃ x, lensL E = x := ⟨_, rfl⟩
  rw [hx9] at c1
  obtain ⟨b9, r9, e9⟩ := x9
  simp only at c1
  have HC : Hid (∀ (j : Nat) (d : OV), D0[j]? = some d → ∃ b off, p = some ⟨b, off, none⟩ ∧ OpAt w b (off + j * 7) d) := hc
  have HN : Hid (D0.length = n ∧ E.length = n) := ⟨hn, by rw [← hDE, hn]⟩
  have hl : n ≤ 1048576 := by rw [← hn, hDE]; exact hl
  have HK : Hid (∀ (k : Nat) d d', D0[k]? = some d → D0[k + 1]? = some d' → ∃ e e', E[k]? = some e ∧ E[k + 1]? = some e' ∧ ∀ W, Below w.heap.size w W → Calls Tryz.prog 37 #[ovV d, ovV d'] W fun r w' => r = .returned (.bool (apartB e e')) ∧ Below W.heap.size W w') := fun k d d' h1 h2 => by
    obtain ⟨y, hy, r1⟩ := forall2_get hre k d h1
    obtain ⟨y', hy', r2⟩ := forall2_get hre (k + 1) d' h2
    refine ⟨y, y', hy, hy', fun W hW => ?_⟩
    rw [opV_of r1, opV_of r2]
    have h3 := (hF y (List.mem_of_getElem? hy)).n
    have h4 := (hF y' (List.mem_of_getElem? hy')).n
    exact refApart_any y y' _ _ W (r1.2.2.2.2.below hW).row (r2.2.2.2.2.below hW).row (by omega) (by omega)
  have HZ : Hid (∀ (k : Nat) d, D0[k]? = some d → ∃ e, E[k]? = some e ∧ d.1 = e.k ∧ d.2.2.2.2.2.1 = e.A.length) := fun k d h1 => by
    obtain ⟨y, hy, r1⟩ := forall2_get hre k d h1
    obtain ⟨pp, cc, hvv, _⟩ := r1.2.2.2.2.row.val
    simp only [slV, Value.slice.injEq] at hvv
    exact ⟨y, hy, r1.1, hvv.2.1⟩
  have HX : Hid ((lensL E).2.2 = e9) := by show _ = _; rw [hx9]
  clear hc hn hDE hre hnz hF hS hx9
  cases e9 with
  | succ x =>
    have hcan : Hid (canonB E = false) := by
      show canonB E = false
      unfold canonB
      rw [decide_eq_false (fun h => by have := HX.out; omega)]; rfl
    obtain ⟨z, hz⟩ : ∃ z : Int, ((x + 1 : Nat) : Int) = z := ⟨_, rfl⟩
    have hz0 : (z != 0) = true := by rw [← hz, bne_iff_ne]; omega
    rw [hz] at c1
    clear HC HN HK HZ HX hz
    go_enter Tryz.func21, Tryz.ntmps21
    go_wp2_with fail
    refine c1.mono ?_; rintro r w2 ⟨rfl, hb2⟩
    clear c1
    go_wp2
    go_ret
    exact ⟨by rw [hcan.out]; rfl, hb2⟩
  | zero =>
    have hz0 : (((0 : Nat) : Int) != 0) = false := by decide
    go_enter Tryz.func21, Tryz.ntmps21
    go_wp2_with fail
    refine c1.mono ?_; rintro r w2 ⟨rfl, hb2⟩
    clear c1
    go_wp2
    go_loopw [6] (fun i wr => ∃ (k : Nat), (k ≤ n ∨ k = 1) ∧ 1 ≤ k ∧ i = .int .i64 k ∧ Hid (∀ j x y, j + 1 < k → E[j]? = some x → E[j + 1]? = some y → apartB x y = true) ∧ Below w.heap.size w wr) (fun i _ => n + 1 - (RowKit.intOf i).toNat)
    case atStart => exact ⟨1, Or.inr rfl, Nat.le_refl _, rfl, fun j x y h => by omega, hb2⟩
    case round =>
      clear hb2
      obtain ⟨k, hm, h1k, rfl, HCh, hbw⟩ := hrel
      by_cases hlt : k < n
      · have hltI : (k : Int) < n := by omega
        obtain ⟨m, hmk⟩ : ∃ m, k = m + 1 := ⟨k - 1, by omega⟩
        have HM : Hid (k = m + 1) := hmk
        obtain ⟨d, hd⟩ : ∃ q, D0[m]? = some q := ⟨_, List.getElem?_eq_getElem (by rw [HN.out.1]; omega)⟩
        obtain ⟨d', hd'⟩ : ∃ q, D0[k]? = some q := ⟨_, List.getElem?_eq_getElem (by rw [HN.out.1]; omega)⟩
        obtain ⟨e, e', he, he', cc⟩ := HK.out m d d' hd (by rw [← hmk]; exact hd')
        obtain ⟨b, off, rfl, hin⟩ := HC.out m d hd
        obtain ⟨b', off', hbo, hin'⟩ := HC.out k d' hd'
        simp only [Option.some.injEq, Addr.mk.injEq, and_true] at hbo
        obtain ⟨rfl, rfl⟩ := hbo
        obtain ⟨c0, c1, c2, c3, c4, c5, c6⟩ := hin.below hbw
        obtain ⟨d0, d1, d2, d3, d4, d5, d6⟩ := hin'.below hbw
        have HEE : Hid (E[m]? = some e ∧ E[m + 1]? = some e') := ⟨he, he'⟩
        clear hin hin' hd hd' he he'
        obtain ⟨f, t, ⟨x, z, u⟩, cc1, p, j, c⟩ := d
        obtain ⟨f', t', ⟨x', z', u'⟩, cc1', p', j', c'⟩ := d'
        simp only [slV] at c0 c1 c2 c3 c4 c5 c6 d0 d1 d2 d3 d4 d5 d6
        simp only [ovV, ovC, slV] at cc
        have HU : Hid (∀ w', Below wr.drew.heap.size wr.drew w' → (w'.cell? ⟨b, off + m * 7, none⟩ = some (.int .i64 f) ∧ w'.cell? ⟨b, off + m * 7 + 1, none⟩ = some (.string t) ∧ w'.cell? ⟨b, off + m * 7 + 2, none⟩ = some (.int .i64 x) ∧ w'.cell? ⟨b, off + m * 7 + 3, none⟩ = some (.int .i64 z) ∧ w'.cell? ⟨b, off + m * 7 + 4, none⟩ = some (.string u) ∧ w'.cell? ⟨b, off + m * 7 + 5, none⟩ = some (.int .i64 cc1) ∧ w'.cell? ⟨b, off + m * 7 + 6, none⟩ = some (.slice p j c) ∧ w'.cell? ⟨b, off + k * 7, none⟩ = some (.int .i64 f') ∧ w'.cell? ⟨b, off + k * 7 + 1, none⟩ = some (.string t') ∧ w'.cell? ⟨b, off + k * 7 + 2, none⟩ = some (.int .i64 x') ∧ w'.cell? ⟨b, off + k * 7 + 3, none⟩ = some (.int .i64 z') ∧ w'.cell? ⟨b, off + k * 7 + 4, none⟩ = some (.string u') ∧ w'.cell? ⟨b, off + k * 7 + 5, none⟩ = some (.int .i64 cc1') ∧ w'.cell? ⟨b, off + k * 7 + 6, none⟩ = some (.slice p' j' c'))) := fun w' hb => ⟨(hb.cell (lt_of_cell (w := wr.drew) c0)).trans c0, (hb.cell (lt_of_cell (w := wr.drew) c1)).trans c1, (hb.cell (lt_of_cell (w := wr.drew) c2)).trans c2, (hb.cell (lt_of_cell (w := wr.drew) c3)).trans c3, (hb.cell (lt_of_cell (w := wr.drew) c4)).trans c4, (hb.cell (lt_of_cell (w := wr.drew) c5)).trans c5, (hb.cell (lt_of_cell (w := wr.drew) c6)).trans c6, (hb.cell (lt_of_cell (w := wr.drew) d0)).trans d0, (hb.cell (lt_of_cell (w := wr.drew) d1)).trans d1, (hb.cell (lt_of_cell (w := wr.drew) d2)).trans d2, (hb.cell (lt_of_cell (w := wr.drew) d3)).trans d3, (hb.cell (lt_of_cell (w := wr.drew) d4)).trans d4, (hb.cell (lt_of_cell (w := wr.drew) d5)).trans d5, (hb.cell (lt_of_cell (w := wr.drew) d6)).trans d6⟩
        have hz0 : w.heap.size ≤ wr.drew.heap.size := hbw.size
        obtain ⟨q, hq⟩ : ∃ q, apartB e e' = q := ⟨_, rfl⟩
        rw [hq] at cc
        have HQ : Hid (apartB e e' = q) := hq
        have hk0 : (0 : Int) ≤ (k : Int) - 1 := by omega
        have hk1 : (k : Int) - 1 < (n : Int) := by omega
        have hk2 : ((k : Int) - 1).toNat = m := by omega
        have hk3 : IntKind.i64.wrap ((k : Int) - 1) = (k : Int) - 1 := by rw [IntKind.wrap_i64]; omega
        have hk4 : k ≤ 1048576 := by omega
        have hk5 : (1 : Int) ≤ (k : Int) := by omega
        have hk6 : k - 1 = m := by omega
        have hk7 : (0 : Int) ≤ (k : Int) := by omega
        clear hq hm hmk
        cases q with
        | true =>
          have HCh2 : Hid (∀ j x y, j + 1 < k + 1 → E[j]? = some x → E[j + 1]? = some y → apartB x y = true) := fun j x y hj hx hy => by
            by_cases hjm : j = m
            · subst hjm
              obtain rfl := Option.some.inj (hx.symm.trans HEE.out.1)
              obtain rfl := Option.some.inj (hy.symm.trans HEE.out.2)
              exact HQ.out
            · exact HCh.out j x y (by have := HM.out; omega) hx hy
          go_wp2_with fail
          go_region_held3 (fun w' => (w'.cell? ⟨b, off + m * 7, none⟩ = some (.int .i64 f) ∧ w'.cell? ⟨b, off + m * 7 + 1, none⟩ = some (.string t) ∧ w'.cell? ⟨b, off + m * 7 + 2, none⟩ = some (.int .i64 x) ∧ w'.cell? ⟨b, off + m * 7 + 3, none⟩ = some (.int .i64 z) ∧ w'.cell? ⟨b, off + m * 7 + 4, none⟩ = some (.string u) ∧ w'.cell? ⟨b, off + m * 7 + 5, none⟩ = some (.int .i64 cc1) ∧ w'.cell? ⟨b, off + m * 7 + 6, none⟩ = some (.slice p j c) ∧ w'.cell? ⟨b, off + k * 7, none⟩ = some (.int .i64 f') ∧ w'.cell? ⟨b, off + k * 7 + 1, none⟩ = some (.string t') ∧ w'.cell? ⟨b, off + k * 7 + 2, none⟩ = some (.int .i64 x') ∧ w'.cell? ⟨b, off + k * 7 + 3, none⟩ = some (.int .i64 z') ∧ w'.cell? ⟨b, off + k * 7 + 4, none⟩ = some (.string u') ∧ w'.cell? ⟨b, off + k * 7 + 5, none⟩ = some (.int .i64 cc1') ∧ w'.cell? ⟨b, off + k * 7 + 6, none⟩ = some (.slice p' j' c')) ∧ Below w.heap.size w w')
            (exact ⟨by first | (with_reducible assumption) | (simp [*]; done), by first | (with_reducible assumption) | exact hbw.drew⟩)
            (first | (go_at_call 37; refine (cc _ ?_).mono ?_; (· first | assumption | exact hbw.drew | (apply And.right; assumption)); rintro r w3 ⟨rfl, b3⟩; have b4 : Below w.heap.size w w3 := (hbw.drew).trans (b3.mono hz0); have mm := HU.out _ b3))
          clear cc mm b3
          go_wp2
          go_roundw
          case rel => exact ⟨k + 1, by omega, by omega, by go_num, HCh2, b4⟩
          case measure => simp [RowKit.intOf]; omega
        | false =>
          have hcan : Hid (canonB E = false) := by
            show canonB E = false
            cases h : chainB E with
            | true => have := chain_iff.1 h m e e' HEE.out.1 HEE.out.2; rw [HQ.out] at this; cases this
            | false => unfold canonB; rw [h]; simp
          go_wp2_with fail
          go_region_held3 (fun w' => (w'.cell? ⟨b, off + m * 7, none⟩ = some (.int .i64 f) ∧ w'.cell? ⟨b, off + m * 7 + 1, none⟩ = some (.string t) ∧ w'.cell? ⟨b, off + m * 7 + 2, none⟩ = some (.int .i64 x) ∧ w'.cell? ⟨b, off + m * 7 + 3, none⟩ = some (.int .i64 z) ∧ w'.cell? ⟨b, off + m * 7 + 4, none⟩ = some (.string u) ∧ w'.cell? ⟨b, off + m * 7 + 5, none⟩ = some (.int .i64 cc1) ∧ w'.cell? ⟨b, off + m * 7 + 6, none⟩ = some (.slice p j c) ∧ w'.cell? ⟨b, off + k * 7, none⟩ = some (.int .i64 f') ∧ w'.cell? ⟨b, off + k * 7 + 1, none⟩ = some (.string t') ∧ w'.cell? ⟨b, off + k * 7 + 2, none⟩ = some (.int .i64 x') ∧ w'.cell? ⟨b, off + k * 7 + 3, none⟩ = some (.int .i64 z') ∧ w'.cell? ⟨b, off + k * 7 + 4, none⟩ = some (.string u') ∧ w'.cell? ⟨b, off + k * 7 + 5, none⟩ = some (.int .i64 cc1') ∧ w'.cell? ⟨b, off + k * 7 + 6, none⟩ = some (.slice p' j' c')) ∧ Below w.heap.size w w')
            (exact ⟨by first | (with_reducible assumption) | (simp [*]; done), by first | (with_reducible assumption) | exact hbw.drew⟩)
            (first | (go_at_call 37; refine (cc _ ?_).mono ?_; (· first | assumption | exact hbw.drew | (apply And.right; assumption)); rintro r w3 ⟨rfl, b3⟩; have b4 : Below w.heap.size w w3 := (hbw.drew).trans (b3.mono hz0); have mm := HU.out _ b3))
          clear cc mm b3
          go_wp2
          go_ret
          exact ⟨by rw [hcan.out]; rfl, b4⟩
      · have hltI : ¬ (k : Int) < n := by omega
        have HC1 : Hid (chainB E = true) := chain_iff.2 fun j x y hx hy => HCh.out j x y (by
          have := (List.getElem?_eq_some_iff.1 hy).1; rw [HN.out.2] at this; omega) hx hy
        clear HCh
        cases n with
        | zero =>
          have hcan : Hid (canonB E = true) := by
            show canonB E = true
            have : E = [] := List.eq_nil_of_length_eq_zero HN.out.2
            unfold canonB
            rw [HC1.out, decide_eq_true HX.out, this]; rfl
          go_wp2
          go_ret
          exact ⟨by rw [hcan.out]; rfl, hbw⟩
        | succ l =>
          obtain ⟨d, hd⟩ : ∃ q, D0[l]? = some q := ⟨_, List.getElem?_eq_getElem (by rw [HN.out.1]; omega)⟩
          obtain ⟨e, he, hdk, hdl⟩ := HZ.out l d hd
          obtain ⟨b, off, rfl, hin⟩ := HC.out l d hd
          obtain ⟨c0, c1, c2, c3, c4, c5, c6⟩ := hin.below hbw
          have hcan : Hid (canonB E = !plainR e) := by
            show canonB E = _
            unfold canonB lastP
            rw [HC1.out, decide_eq_true HX.out, List.getLast?_eq_getElem?, HN.out.2]
            simp only [Nat.add_sub_cancel, he]
            rfl
          obtain ⟨f, t, ⟨x, z, u⟩, cc1, p, j, c⟩ := d
          simp only [slV] at c0 c1 c2 c3 c4 c5 c6
          simp only at hdk hdl
          have hpl : Hid (plainR e = (f == 3 && j == 0)) := by
            show plainR e = _
            unfold plainR
            rw [hdk, hdl]
            cases e.A <;> simp
          have hl0 : (((l : Int) + 1) == 0) = false := by simp; omega
          have hl1 : ((l : Int) + 1 - 1) = (l : Int) := by omega
          clear he hin hd hdk hdl hm hlt
          by_cases hf : f = 3
          · subst hf
            cases j with
            | zero =>
              go_wp2
              go_ret
              exact ⟨by rw [hcan.out, hpl.out]; rfl, hbw⟩
            | succ j =>
              have hj0 : decide ((0 : Int) < ((j + 1 : Nat) : Int)) = true := decide_eq_true (by omega)
              have hj2 : decide (0 < j + 1) = true := decide_eq_true (by omega)
              go_wp2
              go_ret
              exact ⟨by rw [hcan.out, hpl.out]; rfl, hbw⟩
          · have hf0 : (f != 3) = true := by simpa using hf
            have hf1 : (f == 3) = false := by simpa using hf
            clear hf
            go_wp2
            go_ret
            exact ⟨by rw [hcan.out, hpl.out, hf1]; rfl, hbw⟩
end Go.Proofs.YtgimcloadjjefabGreatDoor

/- What vellumref04.copied and vellumref04.Join answer. -/
namespace Go.Proofs.YtgimcloadjjefabGreatDoor
open Go Go.RowKit Go.Lib
set_option linter.unusedVariables false
end Go.Proofs.YtgimcloadjjefabGreatDoor

/- What vellumref04.Length, Cells and Newlines answer of inserts. -/
namespace Go.Proofs.YtgimcloadjjefabGreatDoor
open Go Go.RowKit Go.Lib
set_option linter.unusedVariables false

theorem ub10 (z : Int) (h : 128 ≤ z) (h1 : z < 256) : ¬ z.toNat.toUInt8 = 10 := fun e => by
  have := congrArg UInt8.toNat e
  rw [u8_nat z (by omega) h1] at this
  simp at this
  omega
theorem count_enc {r : Nat} (h : scal r) : (enc r).count 10 = if r = 10 then 1 else 0 := by
  have h' := h
  unfold scal at h'
  by_cases h1 : r < 128
  · rw [enc_one h1]
    by_cases h0 : r = 10
    · subst h0; rfl
    · rw [if_neg h0, List.count_eq_zero]
      intro hm
      have e := congrArg UInt8.toNat (List.mem_singleton.1 hm)
      rw [u8_nat _ (by omega) (by omega)] at e
      simp at e
      omega
  · rw [if_neg (by omega), List.count_eq_zero]
    intro hm
    by_cases h2 : r < 2048
    · rw [enc_two (by omega) h2] at hm
      simp only [List.mem_cons, List.not_mem_nil, or_false] at hm
      rcases hm with e | e <;> exact ub10 _ (by omega) (by omega) e.symm
    by_cases h3 : r < 65536
    · rw [enc_three (by omega) h3 h] at hm
      simp only [List.mem_cons, List.not_mem_nil, or_false] at hm
      rcases hm with e | e | e <;> exact ub10 _ (by omega) (by omega) e.symm
    · rw [enc_four (by omega) (by omega)] at hm
      simp only [List.mem_cons, List.not_mem_nil, or_false] at hm
      rcases hm with e | e | e | e <;> exact ub10 _ (by omega) (by omega) e.symm
theorem count_encs : ∀ (rs : List Nat), (∀ r ∈ rs, scal r) → (encs rs).count 10 = rs.countP (fun r => ((r : Nat) : Int) == 10)
  | [], _ => rfl
  | r :: rs, h => by
    rw [encs, List.count_append, count_enc (h r (by simp)), count_encs rs (fun x hx => h x (by simp [hx])), List.countP_cons]
    by_cases h0 : r = 10
    · subst h0; simp; omega
    · have : (((r : Nat) : Int) == 10) = false := by simp; omega
      rw [if_neg h0, this]
      simp
/-- How many cells of a list are newlines. -/
def newlC (L : List C5) : Nat := L.countP fun e => e.1 == 10
theorem newlC_of {o : Op5} (h : Ins o) : newlC (cellsOf o) = newlO o := by
  unfold newlC cellsOf newlO
  split
  · obtain ⟨h1, h2, _⟩ := valid_text o.t h.utf
    unfold mkC countByte
    rw [List.countP_map]
    conv => rhs; rw [h2]
    rw [count_encs _ h1]
    rfl
  · rfl
theorem newlC_le (L : List C5) : newlC L ≤ L.length := List.countP_le_length

/-- All blocks of numbers are as they were. -/
def Keep32 (w w' : World) : Prop := ∀ (k : Nat) (cur : Array Value), w.heap[k]? = some (.cells cur 21 (0, 0)) → w'.heap[k]? = w.heap[k]?
theorem keep32_below {w w' : World} (hb : Below w.heap.size w w') : Keep32 w w' := fun k cur hk => hb.block k (Array.getElem?_eq_some_iff.1 hk).1
theorem keep32_own {w w' : World} {B : Nat} {v : Value} {zs : List Int} (h : Own32 B w v zs) (hk : Keep32 w w') : Own32 B w' v zs := by
  obtain ⟨hl, h⟩ := h
  refine ⟨hl, ?_⟩
  rcases h with h | ⟨g, cap, cur, h1, h2, h3, h4⟩
  · exact Or.inl h
  · exact Or.inr ⟨g, cap, cur, h1, h2, (hk g cur h3).trans h3, h4⟩
end Go.Proofs.YtgimcloadjjefabGreatDoor

/- The document's deltas: Same, SameOp, Insert, Len. -/
namespace Go.Proofs.YtgimcloadjjefabGreatDoor
open Go Go.RowKit Go.Lib
set_option linter.unusedVariables false
end Go.Proofs.YtgimcloadjjefabGreatDoor

/- The document's deltas: Len. -/
namespace Go.Proofs.YtgimcloadjjefabGreatDoor
open Go Go.RowKit Go.Lib
set_option linter.unusedVariables false
end Go.Proofs.YtgimcloadjjefabGreatDoor

/- vellumhand.Make, Is; vellumlaw06's gone, text, large, lives. -/
namespace Go.Proofs.YtgimcloadjjefabGreatDoor
open Go Go.RowKit Go.Lib
set_option linter.unusedVariables false
/-- Lists that the calls read. -/
structure OkR (E : List Op5) : Prop where
  n : ∀ o ∈ E, o.A.length ≤ 1048576
  len : E.length ≤ 2097152
/-- A text to insert. -/
def txtO (t : ByteArray) : Op5 := ⟨1, t, z0, 0, []⟩
/-- How large a list is. -/
def larN (E : List Op5) : Int := (E.map fun o => (o.t.size : Int) + 10 * o.A.length + 10).sum
theorem larN_append (E F : List Op5) : larN (E ++ F) = larN E + larN F := by unfold larN; rw [List.map_append, List.sum_append]
theorem larN_one (o : Op5) : larN [o] = (o.t.size : Int) + 10 * o.A.length + 10 := by simp [larN]
theorem larN_le {E : List Op5} (h : FitL E) : 0 ≤ larN E ∧ larN E ≤ 20000000 * E.length := by
  induction E with
  | nil => simp [larN]
  | cons o r ih =>
    obtain ⟨h1, h2⟩ := ih (fun x hx => h x (List.mem_cons_of_mem _ hx))
    have ho := h o (List.mem_cons_self ..)
    have e : larN (o :: r) = (o.t.size : Int) + 10 * o.A.length + 10 + larN r := by simp [larN]
    have a1 := ho.t
    have a2 := ho.n
    rw [e, List.length_cons]
    omega
theorem larN_txt (E : List Op5) : (txtS E : Int) + 10 * E.length ≤ larN E := by
  induction E with
  | nil => simp [larN, txtS]
  | cons o r ih =>
    have e : larN (o :: r) = (o.t.size : Int) + 10 * o.A.length + 10 + larN r := by simp [larN]
    have e2 : txtS (o :: r) = o.t.size + txtS r := by simp [txtS]
    rw [e, e2, List.length_cons]
    omega
theorem larN_mem {E : List Op5} {o : Op5} (h : o ∈ E) : (o.t.size : Int) + 10 * o.A.length + 10 ≤ larN E := by
  induction E with
  | nil => cases h
  | cons x r ih =>
    have e : larN (x :: r) = (x.t.size : Int) + 10 * x.A.length + 10 + larN r := by simp [larN]
    have := larN_txt r
    rcases List.mem_cons.1 h with rfl | h
    · omega
    · have := ih h; omega
end Go.Proofs.YtgimcloadjjefabGreatDoor

/- vellumlaw06.lives answers true. -/
namespace Go.Proofs.YtgimcloadjjefabGreatDoor
open Go Go.RowKit Go.Lib
set_option linter.unusedVariables false

/-- A row of operations laid at once. -/
theorem row_blk {w : World} {b : Nat} {D : List OV} (h : w.heap[b]? = some (.cells (cellsO D).toArray 46 (0, 0))) : RowO w (.slice (some ⟨b, 0, none⟩) D.length D.length) D := by
  refine ⟨some ⟨b, 0, none⟩, D.length, rfl, Nat.le_refl _, fun h => (by cases h), fun j d hd => ⟨b, 0, rfl, ?_⟩⟩
  obtain ⟨k0, k1, k2, k3, k4, k5, k6⟩ := cellsO_get D j d hd
  have e : ∀ i u, (cellsO D)[i]? = some u → w.cell? ⟨b, i, none⟩ = some u := fun i u hu => by
    rw [cell_of_heap h]
    rw [List.getElem?_toArray]
    exact hu
  rw [Nat.zero_add]
  exact ⟨e _ _ k0, e _ _ k1, e _ _ k2, e _ _ k3, e _ _ k4, e _ _ k5, e _ _ k6⟩
/-- An operation without attributes, as it lies in memory. -/
abbrev ovN (o : Op5) : OV := (o.k, o.t, o.v, o.c, (none, 0, 0))
theorem re_blk {w : World} {b : Nat} {E : List Op5} (h : w.heap[b]? = some (.cells (cellsO (E.map ovN)).toArray 46 (0, 0))) (hA : ∀ o ∈ E, o.A = []) : ReO w (.slice (some ⟨b, 0, none⟩) E.length E.length) E := by
  refine ⟨E.map ovN, ?_, ?_⟩
  · have := row_blk h
    rw [List.length_map] at this
    exact this
  · clear h
    induction E with
    | nil => exact .nil
    | cons o r ih =>
      refine .cons ⟨rfl, rfl, rfl, rfl, ?_⟩ (ih fun x hx => hA x (List.mem_cons_of_mem _ hx))
      rw [hA o (List.mem_cons_self ..)]
      exact RN.nil w
def live0 : List Op5 := [delO 1, txtO ⟨#[97]⟩, delO 2, txtO ⟨#[98]⟩, ⟨3, ⟨#[]⟩, z0, 3, []⟩]
def live1 : List Op5 := [txtO ⟨#[97, 98]⟩, delO 3]
theorem live0_ok : ofE 0 0 live0 = (0, 0) := by kernel_rfl
theorem live0_canon : canonL live0 = live1 := by kernel_rfl
theorem fit_nil {o : Op5} (h1 : o.t.size ≤ 8388608) (h2 : o.v.2.2.size ≤ 1048576) (h3 : o.A = []) : Fit o := ⟨h1, h2, fun q hq => (by rw [h3] at hq; cases hq), by rw [h3]; simp⟩
theorem live0_nil : ∀ o ∈ live0, o.A = [] := by
  intro o ho
  simp only [live0, List.mem_cons, List.not_mem_nil, or_false] at ho
  rcases ho with rfl | rfl | rfl | rfl | rfl <;> rfl
theorem live1_nil : ∀ o ∈ live1, o.A = [] := by
  intro o ho
  simp only [live1, List.mem_cons, List.not_mem_nil, or_false] at ho
  rcases ho with rfl | rfl <;> rfl
theorem live0_fit : FitL live0 := by
  intro o ho
  refine fit_nil ?_ ?_ (live0_nil o ho)
  all_goals
    simp only [live0, List.mem_cons, List.not_mem_nil, or_false] at ho
    rcases ho with rfl | rfl | rfl | rfl | rfl <;> decide
theorem live1_okR : OkR live1 := ⟨fun o ho => by rw [live1_nil o ho]; simp, by decide⟩
theorem live1_good : ∀ o ∈ live1, opE o = 0 := by
  intro o ho
  simp only [live1, List.mem_cons, List.not_mem_nil, or_false] at ho
  rcases ho with rfl | rfl <;> kernel_rfl
end Go.Proofs.YtgimcloadjjefabGreatDoor

/- vellumlaw08: of, is, fixed. -/
namespace Go.Proofs.YtgimcloadjjefabGreatDoor
open Go Go.RowKit Go.Lib
set_option linter.unusedVariables false

theorem Hid.mk8 {P : Prop} (h : P) : Hid P := h
theorem canB_can {E : List Op5} (h : canonB E = true) : CanO E ∧ Fits8 E ∧ ∀ o ∈ E, opE o = 0 := by
  obtain ⟨h1, h2, h3, h4, h5⟩ := canonB_iff.1 h
  exact ⟨⟨h1, h4, h5⟩, ⟨h2, h3⟩, wel_good h1 h2⟩
theorem can_canB {E : List Op5} (h : CanO E) (hf : Fits8 E) : canonB E = true := canonB_iff.2 ⟨h.wel, hf.1, hf.2, h.chain, h.last⟩
set_option maxHeartbeats 2000000 in
set_option maxRecDepth 100000 in
theorem of8_any {I : List Nat} {a : Nat → Addr} (v : Value) (A : List Op5) (w : World) (hI : ∀ i ∈ IxO, i ∈ I) (hS : Std I a w) (hv : ReO w v A) (hF : FitL A) (hl : A.length ≤ 1048576) (ht : txtS A ≤ 4194304) :
    Calls Tryz.prog 8 #[v] w fun r w' => ∃ dv, r = .returned dv ∧ (canonB A = true → (∃ q, dv = .pointer (some ⟨q, 0, none⟩)) ∧ DlE w' w.heap.size w.heap.size dv A) ∧ (canonB A = false → dv = .pointer none) ∧ Below w.heap.size w w' := by
  have c1 := refCanon_any v A w hS hv hF hl
  have cB : Hid (canonB A = true → ∀ W, Below w.heap.size w W → Calls Tryz.prog 22 #[v] W fun r w' => ∃ q, r = .returned (.tuple #[.pointer (some ⟨q, 0, none⟩), .int .i64 0, .nilIface]) ∧ DlE w' w.heap.size w.heap.size (.pointer (some ⟨q, 0, none⟩)) A ∧ Below w.heap.size w w') := fun hc W hW => by
    obtain ⟨k1, k2, k3⟩ := canB_can hc
    have e0 := ofE_ok A 0 0 k3 (by have := k2.1; omega) (by have := k2.2; omega)
    refine (buildOf_any v A W hI (hS.below hW) (hv.below hW) hF hl (by omega)).mono ?_
    rintro r w' ⟨dv, h1, h2, -, h4⟩
    rw [e0] at h1 h2
    have hd := h2 rfl
    rw [k1.self] at hd
    obtain ⟨q, pv, PL, rfl, _⟩ := id hd
    exact ⟨q, h1, ⟨delV_low hd hW.size hW.size, k3, fun o ho => (hF o ho).fitA, Nat.le_trans hl (by decide), ht, k2⟩, hW.trans (h4.mono hW.size)⟩
  obtain ⟨D0, ⟨p, cap, rfl, _⟩, _⟩ := id hv
  obtain ⟨b, hb⟩ : ∃ x, canonB A = x := ⟨_, rfl⟩
  rw [hb] at c1 cB ⊢
  clear hS hv hF hl ht hb
  go_enter Tryz.func8, Tryz.ntmps8
  go_wp2_with fail
  refine c1.mono ?_; rintro r w2 ⟨rfl, b2⟩
  cases b with
  | false =>
    clear c1 cB
    go_wp2
    go_ret
    exact ⟨_, rfl, rfl, b2⟩
  | true =>
    have c2 := cB.out rfl w2 b2
    clear c1 cB
    go_wp2_with fail
    refine c2.mono ?_; rintro r w3 ⟨q, rfl, hd, b3⟩
    have HD := Hid.mk8 hd
    clear c2 hd b2
    go_wp2
    go_ret
    exact ⟨_, rfl, ⟨⟨q, rfl⟩, HD.out⟩, b3⟩
theorem isNo8_any (v : Value) (w : World) : Calls Tryz.prog 16 #[.pointer none, v] w fun r w' => r = .returned (.bool false) ∧ Below w.heap.size w w' := by
  go_enter Tryz.func16, Tryz.ntmps16
  go_wp2
  go_ret
  exact ⟨rfl, Below.refl _ _⟩
set_option maxHeartbeats 2000000 in
set_option maxRecDepth 100000 in
theorem is8_any {B1 B2 : Nat} (d v : Value) (E F : List Op5) (w : World) (h : DlE w B1 B2 d E) (hv : ReO w v F) (hl : F.length ≤ 2097152) (hA : ∀ e ∈ F, e.A.length ≤ 1048576) :
    Calls Tryz.prog 16 #[d, v] w fun r w' => r = .returned (.bool (decide (E = F))) ∧ Below w.heap.size w w' := by
  have c1 := ops_any d E w h.d h.g h.n (Nat.le_trans h.len (by decide))
  have c2 : Hid (∀ W v', Below w.heap.size w W → ReO W v' E → Calls Tryz.prog 31 #[v', v] W fun r w' => r = .returned (.bool (decide (E = F))) ∧ Below W.heap.size W w') := fun W v' hW h' => sameQ_any v' v E F W h' (hv.below hW) (Nat.le_trans h.len (by decide)) hl (fun e he => (h.fit e he).n) hA
  obtain ⟨q, pv, PL, rfl, _⟩ := h.d
  obtain ⟨D0, ⟨p, cap, rfl, _⟩, _⟩ := id hv
  obtain ⟨bb, hbb⟩ : ∃ x, decide (E = F) = x := ⟨_, rfl⟩
  rw [hbb] at c2 ⊢
  clear h hv hl hA hbb
  go_enter Tryz.func16, Tryz.ntmps16
  go_wp2_with fail
  refine c1.mono ?_; rintro r w2 ⟨v', rfl, hco, hb2⟩
  have c4 := c2.out w2 v' hb2 hco.re
  obtain ⟨D1, ⟨p1, c1', e1⟩, _⟩ : ∃ D1, (∃ p c, v' = .slice p D1 c) ∧ True := by
    obtain ⟨D', ⟨p', cap', e', _⟩, _⟩ := hco.re
    exact ⟨_, ⟨p', cap', e'⟩, trivial⟩
  subst e1
  clear c1 c2 hco
  go_wp2_with fail
  refine c4.mono ?_; rintro r w3 ⟨rfl, hb3⟩
  have b3 := hb2.trans (hb3.mono hb2.size)
  clear c4 hb2 hb3
  go_wp2
  go_ret
  exact ⟨rfl, b3⟩
def fixA : List Op5 := [pl7 1, delO 2]
def fixB : List Op5 := [txtO ⟨#[120]⟩]
def fixC : List Op5 := [pl7 1, txtO ⟨#[120]⟩, delO 2]
def fixD : List Op5 := [pl7 4, delO 2]
theorem fix_nil : (∀ o ∈ fixA, o.A = []) ∧ (∀ o ∈ fixB, o.A = []) ∧ (∀ o ∈ fixC, o.A = []) ∧ ∀ o ∈ fixD, o.A = [] := by
  refine ⟨fun o ho => ?_, fun o ho => ?_, fun o ho => ?_, fun o ho => ?_⟩
  · simp only [fixA, List.mem_cons, List.not_mem_nil, or_false] at ho
    rcases ho with rfl | rfl <;> rfl
  · simp only [fixB, List.mem_cons, List.not_mem_nil, or_false] at ho
    subst ho; rfl
  · simp only [fixC, List.mem_cons, List.not_mem_nil, or_false] at ho
    rcases ho with rfl | rfl | rfl <;> rfl
  · simp only [fixD, List.mem_cons, List.not_mem_nil, or_false] at ho
    rcases ho with rfl | rfl <;> rfl
theorem fix_fitA : FitL fixA := fun o ho => fit_nil (by
  simp only [fixA, List.mem_cons, List.not_mem_nil, or_false] at ho
  rcases ho with rfl | rfl <;> decide) (by
  simp only [fixA, List.mem_cons, List.not_mem_nil, or_false] at ho
  rcases ho with rfl | rfl <;> decide) (fix_nil.1 o ho)
theorem fix_fitB : FitL fixB := fun o ho => fit_nil (by
  simp only [fixB, List.mem_cons, List.not_mem_nil, or_false] at ho
  subst ho; decide) (by
  simp only [fixB, List.mem_cons, List.not_mem_nil, or_false] at ho
  subst ho; decide) (fix_nil.2.1 o ho)
theorem fix_fitC : FitL fixC := fun o ho => fit_nil (by
  simp only [fixC, List.mem_cons, List.not_mem_nil, or_false] at ho
  rcases ho with rfl | rfl | rfl <;> decide) (by
  simp only [fixC, List.mem_cons, List.not_mem_nil, or_false] at ho
  rcases ho with rfl | rfl | rfl <;> decide) (fix_nil.2.2.1 o ho)
theorem fix_fitD : FitL fixD := fun o ho => fit_nil (by
  simp only [fixD, List.mem_cons, List.not_mem_nil, or_false] at ho
  rcases ho with rfl | rfl <;> decide) (by
  simp only [fixD, List.mem_cons, List.not_mem_nil, or_false] at ho
  rcases ho with rfl | rfl <;> decide) (fix_nil.2.2.2 o ho)
theorem fix_canA : canonB fixA = true := by kernel_rfl
theorem fix_canB : canonB fixB = true := by kernel_rfl
theorem fix_cat : canonL (fixA ++ fixB) = fixC := by kernel_rfl
theorem fix_sh : shift8 fixA 3 = fixD := by
  have e : shift8 fixA 3 = canonL (pl7 3 :: fixA) := if_neg (by simp [fixA])
  exact e.trans (by kernel_rfl)
theorem fix_num : sumB fixA = 3 ∧ sumR fixA = 1 ∧ sumD8 fixA = 2 ∧ sumI8 fixB = 1 ∧ sumB fixB = 0 := by decide
theorem fix_fits : Fits8 (fixA ++ fixB) ∧ FitSh fixA 3 := by
  refine ⟨by unfold Fits8; decide, Or.inr (by decide)⟩
end Go.Proofs.YtgimcloadjjefabGreatDoor

/- vellumlaw08: fixed answers true. -/
namespace Go.Proofs.YtgimcloadjjefabGreatDoor
open Go Go.RowKit Go.Lib
set_option linter.unusedVariables false

/-- The errors that the laws ask for. -/
def IR8 : List Nat := 11 :: IxO
theorem ir8 {I : List Nat} (h : ∀ i ∈ IR8, i ∈ I) : (∀ i ∈ IxO, i ∈ I) ∧ 11 ∈ I := ⟨fun i hi => h i (List.mem_cons_of_mem _ hi), h 11 (List.mem_cons_self ..)⟩
/-- A delta of a fixed list. -/
theorem fixed_of {I : List Nat} {a : Nat → Addr} (E : List Op5) (n : Nat) (w : World) (b : Nat) (hI : ∀ i ∈ IxO, i ∈ I) (hS : Std I a w) (hn : E.length = n) (hA : ∀ o ∈ E, o.A = []) (hF : FitL E) (hl : E.length ≤ 1048576) (ht : txtS E ≤ 4194304) (hc : canonB E = true) (hb : w.heap[b]? = some (.cells (cellsO (E.map ovN)).toArray 46 (0, 0))) :
    Calls Tryz.prog 8 #[.slice (some ⟨b, 0, none⟩) n n] w fun r w' => ∃ q, r = .returned (.pointer (some ⟨q, 0, none⟩)) ∧ DlE w' w.heap.size w.heap.size (.pointer (some ⟨q, 0, none⟩)) E ∧ Below w.heap.size w w' := by
  subst hn
  refine (of8_any _ E w hI hS (re_blk hb hA) hF hl ht).mono ?_
  rintro r w' ⟨dv, rfl, h1, -, h3⟩
  obtain ⟨⟨q, rfl⟩, h2⟩ := h1 hc
  exact ⟨q, rfl, h2, h3⟩
set_option maxHeartbeats 4000000 in
set_option maxRecDepth 100000 in
theorem fixed8_any {I : List Nat} {a : Nat → Addr} (w : World) (hI : ∀ i ∈ IxO, i ∈ I) (h11 : 11 ∈ I) (hS : Std I a w) :
    Calls Tryz.prog 7 #[] w fun r w' => r = .returned (.bool true) ∧ Below w.heap.size w w' := by
  have hS' : Hid (∀ W, Below w.heap.size w W → Std I a W) := fun W h => hS.below h
  have b1 : Below w.heap.size w (w.alloc (.cells (cellsO (fixA.map ovN)).toArray 46)) := (Below.refl _ _).alloc (Nat.le_refl _) _
  have c1 := fixed_of fixA 2 _ w.heap.size hI (hS'.out _ b1) rfl fix_nil.1 fix_fitA (by decide) (by decide) fix_canA (heap_alloc_new w _)
  have cB := fun (W : World) (hW : Below w.heap.size w W) => fixed_of fixB 1 (W.alloc (.cells (cellsO (fixB.map ovN)).toArray 46)) W.heap.size hI (hS'.out _ (hW.alloc hW.size _)) rfl fix_nil.2.1 fix_fitB (by decide) (by decide) fix_canB (heap_alloc_new W _)
  have HC : Hid (∀ (W : World) (d1 d2 d3 d4 : Nat) (u v : Value), Below w.heap.size w W → DlE W d1 d2 u fixA → DlE W d3 d4 v fixB → Calls Tryz.prog 15 #[u, v] W fun r w' => ∃ q, r = .returned (.tuple #[.pointer (some ⟨q, 0, none⟩), .nilIface]) ∧ DlE w' W.heap.size W.heap.size (.pointer (some ⟨q, 0, none⟩)) fixC ∧ Below W.heap.size W w') := fun W d1 d2 d3 d4 u v hW hu hv => by
    refine (concat8_any u v fixA fixB W hI (hS'.out W hW) hu hv (by decide)).mono ?_
    rintro r w' ⟨dv, er, rfl, ⟨x1, -⟩, x3⟩
    obtain ⟨rfl, hd⟩ := x1 fix_fits.1
    rw [fix_cat] at hd
    obtain ⟨q, pv, PL, rfl, _⟩ := id hd
    exact ⟨q, rfl, ⟨hd, wel_good (by rw [← fix_cat]; exact (CanO.of (wel_app hu.wel hv.wel)).wel) (by decide), fun o ho => (fix_fitC o ho).fitA, by decide, by decide, by unfold Fits8; decide⟩, x3⟩
  have HD : Hid (∀ (W : World) (d1 d2 : Nat) (u : Value), Below w.heap.size w W → DlE W d1 d2 u fixA → Calls Tryz.prog 20 #[u, .int .i64 3] W fun r w' => ∃ q, r = .returned (.tuple #[.pointer (some ⟨q, 0, none⟩), .nilIface]) ∧ (∃ e1 e2, DlE w' e1 e2 (.pointer (some ⟨q, 0, none⟩)) fixD) ∧ Below W.heap.size W w') := fun W d1 d2 u hW hu => by
    refine (shift8_any u fixA 3 W hI h11 (hS'.out W hW) hu (by decide) (by decide)).mono ?_
    rintro r w' ⟨dv, er, rfl, ⟨-, x2⟩, x3⟩
    obtain ⟨rfl, e1, e2, hd⟩ := (x2 (by decide)).1 fix_fits.2
    rw [fix_sh] at hd
    obtain ⟨q, pv, PL, rfl, _⟩ := id hd
    exact ⟨q, rfl, ⟨e1, e2, hd, wel_good (by rw [← fix_sh]; exact (shift_units ⟨hu.wel, by kernel_rfl, by kernel_rfl⟩ (by decide) (by simp [fixA])).1.wel) (by decide), fun o ho => (fix_fitD o ho).fitA, by decide, by decide, by unfold Fits8; decide⟩, x3⟩
  have n1 := fix_num
  clear hS
  go_enter Tryz.func7, Tryz.ntmps7
  go_wp2_with fail
  refine c1.mono ?_; rintro r w2 ⟨qa, rfl, ha, b2⟩
  have hb2 := b1.trans (b2.mono b1.size)
  have HA2 := Hid.mk8 ha
  have c2 := cB w2 hb2
  clear c1 cB b1 b2 ha
  go_wp2_with fail
  refine c2.mono ?_; rintro r w3 ⟨qb, rfl, hb, b3⟩
  have ba : Below w2.heap.size w2 (w2.alloc (.cells (cellsO (fixB.map ovN)).toArray 46)) := (Below.refl _ _).alloc (Nat.le_refl _) _
  have b23 := ba.trans (b3.mono ba.size)
  have hb3 := hb2.trans (b23.mono hb2.size)
  have HA3 := Hid.mk8 (HA2.out.below b23)
  have HB3 := Hid.mk8 hb
  have c3 := base8_any _ _ w3 HA3.out
  rw [n1.1] at c3
  clear c2 hb2 b23 ba b3 hb HA2
  go_wp2_with fail
  refine c3.mono ?_; rintro r w4 ⟨rfl, b4⟩
  have hb4 := hb3.trans (b4.mono hb3.size)
  have HA4 := Hid.mk8 (HA3.out.below b4)
  have HB4 := Hid.mk8 (HB3.out.below b4)
  have c4 := result8_any _ _ w4 HA4.out
  rw [n1.2.1] at c4
  clear c3 hb3 b4 HA3 HB3
  go_wp2_with fail
  refine c4.mono ?_; rintro r w5 ⟨rfl, b5⟩
  have hb5 := hb4.trans (b5.mono hb4.size)
  have HA5 := Hid.mk8 (HA4.out.below b5)
  have HB5 := Hid.mk8 (HB4.out.below b5)
  have c5 := dl8_any _ _ w5 HA5.out
  rw [n1.2.2.1] at c5
  clear c4 hb4 b5 HA4 HB4
  go_wp2_with fail
  refine c5.mono ?_; rintro r w6 ⟨rfl, b6⟩
  have hb6 := hb5.trans (b6.mono hb5.size)
  have HA6 := Hid.mk8 (HA5.out.below b6)
  have HB6 := Hid.mk8 (HB5.out.below b6)
  have c6 := ins8_any _ _ w6 HB6.out
  rw [n1.2.2.2.1] at c6
  clear c5 hb5 b6 HA5 HB5
  go_wp2_with fail
  refine c6.mono ?_; rintro r w7 ⟨rfl, b7⟩
  have hb7 := hb6.trans (b7.mono hb6.size)
  have HA7 := Hid.mk8 (HA6.out.below b7)
  have HB7 := Hid.mk8 (HB6.out.below b7)
  have c7 := doc8_any _ _ w7 HB7.out
  rw [n1.2.2.2.2] at c7
  clear c6 hb6 b7 HA6 HB6
  go_wp2_with fail
  refine c7.mono ?_; rintro r w8 ⟨rfl, b8⟩
  have hb8 := hb7.trans (b8.mono hb7.size)
  have HA8 := Hid.mk8 (HA7.out.below b8)
  have HB8 := Hid.mk8 (HB7.out.below b8)
  have c8 := doc8_any _ _ w8 HA8.out
  rw [n1.1] at c8
  clear c7 hb7 b8 HA7 HB7
  go_wp2_with fail
  refine c8.mono ?_; rintro r w9 ⟨rfl, b9⟩
  have hb9 := hb8.trans (b9.mono hb8.size)
  have HA9 := Hid.mk8 (HA8.out.below b9)
  have HB9 := Hid.mk8 (HB8.out.below b9)
  have c9 := HC.out w9 _ _ _ _ _ _ hb9 HA9.out HB9.out
  clear c8 hb8 b9 HA8 HB8
  go_wp2_with fail
  refine c9.mono ?_; rintro r wA ⟨qc, rfl, hc, bA⟩
  have hbA := hb9.trans (bA.mono hb9.size)
  have HAA := Hid.mk8 (HA9.out.below bA)
  have HCA := Hid.mk8 hc
  have cA := HD.out wA _ _ _ hbA HAA.out
  clear c9 hb9 bA hc HA9 HB9 HC
  go_wp2_with fail
  refine cA.mono ?_; rintro r wB ⟨qd, rfl, ⟨e1, e2, hd⟩, bB⟩
  have hbB := hbA.trans (bB.mono hbA.size)
  have HDB := Hid.mk8 hd
  have HCB := Hid.mk8 (HCA.out.below bB)
  have bc : Below wB.heap.size wB (wB.alloc (.cells (cellsO (fixC.map ovN)).toArray 46)) := (Below.refl _ _).alloc (Nat.le_refl _) _
  have cI := is8_any _ (.slice (some ⟨wB.heap.size, 0, none⟩) 3 3) fixC fixC (wB.alloc (.cells (cellsO (fixC.map ovN)).toArray 46)) (HCB.out.below bc) (re_blk (heap_alloc_new wB _) fix_nil.2.2.1) (by decide) (fun e he => by rw [fix_nil.2.2.1 e he]; decide)
  rw [decide_eq_true rfl] at cI
  clear cA hbA bB hd HAA HCA HD
  go_wp2_with fail
  refine cI.mono ?_; rintro r wC ⟨rfl, bC⟩
  have hbC := (hbB.trans (bc.mono hbB.size)).trans (bC.mono (Nat.le_trans hbB.size bc.size))
  have HDC := Hid.mk8 ((HDB.out.below bc).below bC)
  have bd : Below wC.heap.size wC (wC.alloc (.cells (cellsO (fixD.map ovN)).toArray 46)) := (Below.refl _ _).alloc (Nat.le_refl _) _
  have cJ := is8_any _ (.slice (some ⟨wC.heap.size, 0, none⟩) 2 2) fixD fixD (wC.alloc (.cells (cellsO (fixD.map ovN)).toArray 46)) (HDC.out.below bd) (re_blk (heap_alloc_new wC _) fix_nil.2.2.2) (by decide) (fun e he => by rw [fix_nil.2.2.2 e he]; decide)
  rw [decide_eq_true rfl] at cJ
  clear cI hbB bC HDB HCB bc
  go_wp2_with fail
  refine cJ.mono ?_; rintro r wD ⟨rfl, bD⟩
  have hbD := (hbC.trans (bd.mono hbC.size)).trans (bD.mono (Nat.le_trans hbC.size bd.size))
  clear cJ hbC bD HDC bd
  go_wp2
  go_ret
  exact ⟨rfl, hbD⟩
end Go.Proofs.YtgimcloadjjefabGreatDoor

/- Canonical lists of operations in order are in order. -/
namespace Go.Proofs.YtgimcloadjjefabGreatDoor
open Go Go.RowKit Go.Lib
set_option linter.unusedVariables false

theorem trim_sub (P : List Op5) : (∀ x ∈ trimL P, x ∈ P) ∧ txtS (trimL P) ≤ txtS P ∧ (trimL P).length ≤ P.length := by
  rcases List.eq_nil_or_concat P with rfl | ⟨F, x, rfl⟩
  · exact ⟨fun x h => h, Nat.le_refl _, Nat.le_refl _⟩
  · rw [List.concat_eq_append]
    have e : trimL (F ++ [x]) = if plainR x then F else F ++ [x] := by
      unfold trimL
      rw [List.getLast?_concat, List.dropLast_concat]
    rw [e]
    split
    · exact ⟨fun y h => List.mem_append_left _ h, by rw [txtS_append]; omega, by simp⟩
    · exact ⟨fun y h => h, Nat.le_refl _, Nat.le_refl _⟩
/-- The canonical list of operations in order is in order, and no greater. -/
theorem canon_ok {E : List Op5} (h : OkE E) : OkE (canonL E) ∧ txtS (canonL E) ≤ txtS E ∧ (canonL E).length ≤ E.length := by
  have hz : BSz (bldR E) E.length (txtS E) := by
    have := bldR_sz E BSz.nil h.fit
    rw [Nat.zero_add, Nat.zero_add] at this
    exact this
  obtain ⟨c1, c2, c3, c4⟩ := canon_spec h.wel
  obtain ⟨s1, s2⟩ := canon_sums h.wel
  have key : (∀ x ∈ canonL E, FitA x) ∧ txtS (canonL E) ≤ txtS E ∧ (canonL E).length ≤ E.length := by
    rw [← finB_canon h.wel]
    obtain ⟨a, b, c⟩ := hz.set
    have a2 := hz.fit
    have b2 := hz.txt
    have c2 := hz.len
    unfold finB
    by_cases h0 : 0 < (bldR E).2
    · rw [if_pos h0]
      unfold setB at a b c
      rw [if_pos h0] at a b c
      exact ⟨a, b, c⟩
    · rw [if_neg h0]
      obtain ⟨t1, t2, t3⟩ := trim_sub (bldR E).1
      exact ⟨fun x hx => a2 x (t1 x hx), by omega, by omega⟩
  have hb := h.base
  have hr := h.res
  have ht := h.txt
  have hl := h.len
  exact ⟨⟨wel_good c1 (by omega), key.1, by omega, by omega, by omega, by omega⟩, key.2⟩
theorem OkE.okR {E : List Op5} (h : OkE E) (hl : E.length ≤ 2097152) : OkR E := ⟨fun o ho => (h.fit o ho).n, hl⟩
theorem OkE.fitL {E : List Op5} (h : OkE E) : FitL E := fitA_all h.fit h.txt
/-- A list that isn't large. -/
theorem small_of {E : List Op5} (h : decide (60000 < larN E) = false) : txtS E ≤ 60000 ∧ E.length ≤ 6000 ∧ ∀ o ∈ E, o.A.length ≤ 6000 := by
  have h1 := of_decide_eq_false h
  have h2 := larN_txt E
  exact ⟨by omega, by omega, fun o ho => by have := larN_mem ho; omega⟩
/-- What a loop over a list of the call's own and over a row of pieces reads. -/
theorem both_read {w : World} {B1 B2 : Nat} {v1 v2 : Value} {P : List Value} {C : List Op5} (h1 : CoO w B1 v1 C) (h2 : OwnI w B2 v2 P) (h3 : PieD w B2 P C) :
    ∃ p1 c1 p2 c2, v1 = .slice p1 C.length c1 ∧ v2 = .slice p2 C.length c2 ∧ ∀ m, m < C.length → ∃ (e : Op5) (d : OV) (b ga : Nat) (s : Value), C[m]? = some e ∧ p1 = some ⟨b, 0, none⟩ ∧ OpAt w b (0 + m * 7) d ∧ ovV d = opV e (slV d.2.2.2.2) ∧ d.1 = e.k ∧ OwnA w B1 (slV d.2.2.2.2) e.A ∧ p2 = some ⟨ga, 0, none⟩ ∧ w.cell? ⟨ga, m, none⟩ = some (pieceQ e s) ∧ OwnA w B2 s e.A := by
  obtain ⟨D, hD, hO⟩ := h1
  have hl1 := forall2_len hO
  have hl2 := forall2_len h3
  obtain ⟨p1, c1, e1⟩ := own_slice hD
  obtain ⟨p2, c2, e2⟩ := own_slice h2
  refine ⟨p1, c1, p2, c2, by rw [e1, hl1], by rw [e2, hl2], fun m hm => ?_⟩
  obtain ⟨ga, c, x, hv', hB, hx, hc⟩ := own_cell h2 m (by omega)
  obtain ⟨e, s, he, rfl, hs⟩ := oneI h3 hx
  rw [e2] at hv'
  simp only [Value.slice.injEq] at hv'
  have hd : D[m]? = some (D[m]'(by omega)) := List.getElem?_eq_getElem (by omega)
  obtain ⟨y, hy, r⟩ := forall2_get hO m _ hd
  obtain rfl : y = e := Option.some.inj (hy.symm.trans he)
  rcases hD.2 with ⟨_, h0⟩ | ⟨g, cap, cur, e3, _, _, _, _, _, _⟩
  · omega
  · rw [e1] at e3
    simp only [Value.slice.injEq] at e3
    have hD' := hD
    unfold OwnO at hD'
    rw [e1, e3.1] at hD'
    have hat := own_opAt hD' m _ hd
    exact ⟨y, D[m]'(by omega), g, ga, s, he, e3.1, hat, opV_of ⟨r.1, r.2.1, r.2.2.1, r.2.2.2.1, own_RN r.2.2.2.2⟩, r.1, r.2.2.2.2, hv'.1, hc, hs⟩
end Go.Proofs.YtgimcloadjjefabGreatDoor

/- A delta of a list made canonical. -/
namespace Go.Proofs.YtgimcloadjjefabGreatDoor
open Go Go.RowKit Go.Lib
set_option linter.unusedVariables false

theorem dle_of {w' : World} {C1 C2 : Nat} {dv : Value} {L : List Op5} (hd : DelV w' C1 C2 dv (canonL L)) (hg : ∀ o ∈ L, opE o = 0) (hfit : ∀ o ∈ L, FitA o) (hlen : L.length ≤ 2097152) (ht : txtS L ≤ 4194304) (hf : Fits8 L) : DlE w' C1 C2 dv (canonL L) ∧ (canonL L).length ≤ L.length ∧ txtS (canonL L) ≤ txtS L := by
  obtain ⟨k1, k2, k3⟩ := canon_ok (E := L) ⟨hg, hfit, by omega, by omega, hf.1, hf.2⟩
  exact ⟨⟨hd, k1.good, k1.fit, by omega, by omega, k1.base, k1.res⟩, by omega, by omega⟩
end Go.Proofs.YtgimcloadjjefabGreatDoor

/- The errors' numbers: what vellumnum.list and vellumnum.Num answer where all nineteen sentinels lie as laid. -/
namespace Go.Proofs.YtgimcloadjjefabGreatDoor
open Go Go.RowKit
set_option linter.unusedVariables false

/-- All nineteen. -/
def all19 : List Nat := List.range 19
abbrev Sent (a : Nat → Addr) (w : World) : Prop := Er all19 a w
theorem in19 {i : Nat} (h : i < 19) : i ∈ all19 := List.mem_range.2 h
def errA (a : Nat → Addr) : Array Value := #[errV a 0, errV a 1, errV a 2, errV a 3, errV a 4, errV a 5, errV a 6, errV a 7, errV a 8, errV a 9, errV a 10, errV a 11, errV a 12, errV a 13, errV a 14, errV a 15, errV a 16, errV a 17, errV a 18]

theorem wl_build (a : Nat → Addr) {ops : Array Oper} {rest : List Oper} {o : Oper} {A : Act} {w : World} {Q : Exit → Act → World → Prop} (hg : o.guard = none) (parts : Array (Nat × Operand)) (ho : o.op = .build 68 parts)
    (hp : (parts.map fun (i, x) => (i, A.eval x)) = #[(0, errV a 0), (1, errV a 1), (2, errV a 2), (3, errV a 3), (4, errV a 4), (5, errV a 5), (6, errV a 6), (7, errV a 7), (8, errV a 8), (9, errV a 9), (10, errV a 10), (11, errV a 11), (12, errV a 12), (13, errV a 13), (14, errV a 14), (15, errV a 15), (16, errV a 16), (17, errV a 17), (18, errV a 18)])
    (h : wpList Tryz.prog ops Q rest (A.put o.dst (.agg (errA a))) w) : wpList Tryz.prog ops Q (o :: rest) A w := by
  have hb : Tryz.prog.built 68 (parts.map fun (i, x) => (i, A.eval x)).toList = some (errA a) := by rw [hp]; kernel_rfl
  refine wpList_build hg 68 parts ho (by rw [hb]; rfl) ?_
  rw [hb]; exact h

theorem alloc_setRow (w : World) (old cs : Array Value) (t : TypeId) : (w.alloc (.cells old t)).setRow w.heap.size cs = w.alloc (.cells cs t) := by
  have : ((w.heap.push (.cells old t)).modify w.heap.size fun | .cells _ t f => .cells cs t f | o => o) = w.heap.push (.cells cs t) := by
    apply Array.ext
    · simp
    · intro i h1 h2
      rw [Array.getElem_modify]
      by_cases hi : w.heap.size = i
      · subst hi; simp
      · rw [if_neg hi]
        have : i < w.heap.size := by simp at h2; omega
        simp [Array.getElem_push, this]
  show { w with heap := (w.heap.push (.cells old t)).modify w.heap.size _ } = { w with heap := w.heap.push _ }
  rw [← this]; rfl

theorem wl_store (a : Nat → Addr) {ops : Array Oper} {rest : List Oper} {o : Oper} {A : Act} {w : World} {Q : Exit → Act → World → Prop} {old : Array Value} (hg : o.guard = none) (x y : Operand) (ho : o.op = .store 68 x y)
    (hx : A.eval x = .pointer (some ⟨w.heap.size, 0, none⟩)) (hy : A.eval y = .agg (errA a)) (hold : old.size = 19)
    (h : wpList Tryz.prog ops Q rest (A.put o.dst undef) (w.alloc (.cells (errA a) 68))) : wpList Tryz.prog ops Q (o :: rest) A (w.alloc (.cells old 68)) := by
  refine wpList_store_row hg 68 x y ho w.heap.size (errA a) hx hy 68 old (by show (w.heap.push _)[w.heap.size]? = _; simp) (by kernel_rfl) (by rw [hold]; rfl) (by kernel_rfl) ?_
  rw [alloc_setRow]; exact h

set_option maxHeartbeats 400000 in
set_option maxRecDepth 100000 in
theorem list_any (a : Nat → Addr) (w : World) (h : ∀ i, i < 19 → w.cell? ⟨[2, 3, 4, 5, 6, 7, 8, 9, 0, 10, 11, 1, 12, 13, 14, 15, 16, 17, 18].getD i 0, 0, none⟩ = some (errV a i)) :
    Calls Tryz.prog 34 #[] w fun e w' => e = .returned (.agg (errA a)) ∧ Below w.heap.size w w' := by
  have h0 : w.cell? ⟨2, 0, none⟩ = some (errV a 0) := h 0 (by omega)
  have h1 : w.cell? ⟨3, 0, none⟩ = some (errV a 1) := h 1 (by omega)
  have h2 : w.cell? ⟨4, 0, none⟩ = some (errV a 2) := h 2 (by omega)
  have h3 : w.cell? ⟨5, 0, none⟩ = some (errV a 3) := h 3 (by omega)
  have h4 : w.cell? ⟨6, 0, none⟩ = some (errV a 4) := h 4 (by omega)
  have h5 : w.cell? ⟨7, 0, none⟩ = some (errV a 5) := h 5 (by omega)
  have h6 : w.cell? ⟨8, 0, none⟩ = some (errV a 6) := h 6 (by omega)
  have h7 : w.cell? ⟨9, 0, none⟩ = some (errV a 7) := h 7 (by omega)
  have h8 : w.cell? ⟨0, 0, none⟩ = some (errV a 8) := h 8 (by omega)
  have h9 : w.cell? ⟨10, 0, none⟩ = some (errV a 9) := h 9 (by omega)
  have h10 : w.cell? ⟨11, 0, none⟩ = some (errV a 10) := h 10 (by omega)
  have h11 : w.cell? ⟨1, 0, none⟩ = some (errV a 11) := h 11 (by omega)
  have h12 : w.cell? ⟨12, 0, none⟩ = some (errV a 12) := h 12 (by omega)
  have h13 : w.cell? ⟨13, 0, none⟩ = some (errV a 13) := h 13 (by omega)
  have h14 : w.cell? ⟨14, 0, none⟩ = some (errV a 14) := h 14 (by omega)
  have h15 : w.cell? ⟨15, 0, none⟩ = some (errV a 15) := h 15 (by omega)
  have h16 : w.cell? ⟨16, 0, none⟩ = some (errV a 16) := h 16 (by omega)
  have h17 : w.cell? ⟨17, 0, none⟩ = some (errV a 17) := h 17 (by omega)
  have h18 : w.cell? ⟨18, 0, none⟩ = some (errV a 18) := h 18 (by omega)
  have z0 : 2 < w.heap.size := lt_of_cell h0
  have z1 : 3 < w.heap.size := lt_of_cell h1
  have z2 : 4 < w.heap.size := lt_of_cell h2
  have z3 : 5 < w.heap.size := lt_of_cell h3
  have z4 : 6 < w.heap.size := lt_of_cell h4
  have z5 : 7 < w.heap.size := lt_of_cell h5
  have z6 : 8 < w.heap.size := lt_of_cell h6
  have z7 : 9 < w.heap.size := lt_of_cell h7
  have z8 : 0 < w.heap.size := lt_of_cell h8
  have z9 : 10 < w.heap.size := lt_of_cell h9
  have z10 : 11 < w.heap.size := lt_of_cell h10
  have z11 : 1 < w.heap.size := lt_of_cell h11
  have z12 : 12 < w.heap.size := lt_of_cell h12
  have z13 : 13 < w.heap.size := lt_of_cell h13
  have z14 : 14 < w.heap.size := lt_of_cell h14
  have z15 : 15 < w.heap.size := lt_of_cell h15
  have z16 : 16 < w.heap.size := lt_of_cell h16
  have z17 : 17 < w.heap.size := lt_of_cell h17
  have z18 : 18 < w.heap.size := lt_of_cell h18
  clear h
  go_enter Tryz.func34, Tryz.ntmps34
  go_wp2_with (first | (refine wl_build a rfl _ rfl (by kernel_rfl) ?_) | (refine wl_store a rfl _ _ rfl (by kernel_rfl) (by kernel_rfl) (by kernel_rfl) ?_))
  have hl := run_loadVar_new (P := Tryz.prog) w 68 (errA a) 19 31 Tryz.underlying68 (by kernel_rfl)
  refine bodyPost_ret (v := .agg (errA a)) ?_ rfl ⟨rfl, (Below.refl _ _).alloc (Nat.le_refl _) _⟩
  simp only [results, Tryz.results34]
  simp [asAddr, Act.put, hl]

theorem errA_get (a : Nat → Addr) (k : Nat) (hk : k < 19) : (errA a)[k]? = some (errV a k) := by
  have e : errA a = ((List.range 19).map (errV a)).toArray := rfl
  rw [e]
  simp [hk]

theorem index_arr {A : Array Value} {k : Nat} {v : Value} (hk : k < 19) (hA : A[k]? = some v) (w : World) : (Instr.index 68 (.agg A) (.int .i64 k)).run Tryz.prog w = .ok v w := by
  obtain ⟨i, hi, hs⟩ := Option.map_eq_some_iff.1 (show (Tryz.prog.info? 31).map (·.size) = some 1 by kernel_rfl)
  have hk2 : (0 : Int) ≤ k ∧ (k : Int) < 19 := by omega
  simp [Instr.index, run_underlying Tryz.underlying68, asIntOf, hk2, sizeOf, typeInfo, hi, hs, part, hA]
  omega

theorem num_nil (w : World) : Calls Tryz.prog 19 #[.nilIface] w fun e w' => e = .returned (.int .i64 0) ∧ w' = w := by
  go_enter Tryz.func19, Tryz.ntmps19
  go_wp2
  go_ret
  exact ⟨rfl, rfl⟩

set_option maxHeartbeats 400000 in
theorem num_err {a : Nat → Addr} {w : World} (h : Sent a w) (n : Nat) (hn : n < 19) :
    Calls Tryz.prog 19 #[errV a n] w fun e w' => e = .returned (.int .i64 (n + 1)) ∧ Below w.heap.size w w' := by
  have hcell : ∀ i, i < 19 → w.cell? ⟨[2, 3, 4, 5, 6, 7, 8, 9, 0, 10, 11, 1, 12, 13, 14, 15, 16, 17, 18].getD i 0, 0, none⟩ = some (errV a i) := fun i hi => h.cell i (in19 hi)
  have hnil := eql_nil a n
  have hsame := eql_same a n
  obtain ⟨A, hA⟩ : ∃ A, A = errA a := ⟨_, rfl⟩
  have hAs : A.size = 19 := by rw [hA]; rfl
  have hAg : ∀ k, k < 19 → A[k]? = some (errV a k) := by rw [hA]; exact errA_get a
  go_enter Tryz.func19, Tryz.ntmps19
  go_wp2_with (go_at_call 34; refine (list_any a _ hcell).mono ?_; rintro e w1 ⟨rfl, hb⟩; have h1 := h.below hb; clear hcell h hnil; rw [← hA]; clear hA)
  go_loop [8] (fun i => ∃ k : Nat, k ≤ n ∧ i = .int .i64 k) (fun i => 19 - (intOf i).toNat)
  case atStart => exact ⟨0, Nat.zero_le _, rfl⟩
  case round =>
    obtain ⟨k, hk, rfl⟩ := hrel
    have hAk := hAg k (by omega)
    have hk9 : (k : Int) < 19 := by omega
    have hix := index_arr (A := A) (by omega : k < 19) hAk
    clear hAg hAk
    by_cases hlt : k < n
    · have he := eql_other h1 n k (in19 hn) (in19 (by omega)) (by omega)
      clear h1 hsame
      go_wp2
      go_round
      case rel => exact ⟨k + 1, by omega, by go_num⟩
      case measure => simp [intOf]; omega
    · obtain rfl : k = n := by omega
      clear h1
      go_wp2
      go_ret
      exact ⟨rfl, hb⟩

theorem num_of {a : Nat → Addr} {w : World} (h : Sent a w) (e : Nat) (he : e ≤ 19) :
    Calls Tryz.prog 19 #[errOf a e] w fun r w' => r = .returned (.int .i64 e) ∧ Below w.heap.size w w' := by
  cases e with
  | zero => exact (num_nil w).mono fun r w' ⟨h1, h2⟩ => ⟨h1, by rw [h2]; exact Below.refl _ _⟩
  | succ n => rw [errOf_succ]; exact num_err h n (by omega)
end Go.Proofs.YtgimcloadjjefabGreatDoor

/- Deltas of lists made canonical; of all arguments vellumlaw08.MeasureShifts answers true. -/
namespace Go.Proofs.YtgimcloadjjefabGreatDoor
open Go Go.RowKit Go.Lib
set_option linter.unusedVariables false

theorem shift_dle {w w' : World} {B1 B2 C1 C2 : Nat} {v dv : Value} {E : List Op5} {n : Int} (h : DlE w B1 B2 v E) (hn : 0 ≤ n ∧ n ≤ 1099511627776) (hl : E.length + 1 ≤ 2097152) (hf : FitSh E n) (hd : DelV w' C1 C2 dv (shift8 E n)) : DlE w' C1 C2 dv (shift8 E n) ∧ (shift8 E n).length ≤ E.length + 1 ∧ txtS (shift8 E n) ≤ txtS E := by
  by_cases hz : n = 0 ∨ E = []
  · have e : shift8 E n = E := if_pos hz
    rw [e] at hd ⊢
    exact ⟨⟨hd, h.g, h.fit, h.len, h.txt, h.fits⟩, by omega, Nat.le_refl _⟩
  · have e : shift8 E n = canonL (pl7 n :: E) := if_neg hz
    rw [e] at hd ⊢
    have h0 : E ≠ [] := fun h => hz (Or.inr h)
    have ht : txtS (pl7 n :: E) = txtS E := by rw [txtS_cons]; show 0 + _ = _; omega
    obtain ⟨k1, k2, k3⟩ := dle_of hd (fun o ho => (List.mem_cons.1 ho).elim (fun e => e ▸ (pl_good (by omega) (by omega)).1) (h.g o)) (fun o ho => (List.mem_cons.1 ho).elim (fun e => e ▸ pl_fit n) (h.fit o)) (by simpa using hl) (by rw [ht]; exact h.txt) ((fits_sh h0).2 hf)
    exact ⟨k1, by simpa using k2, by rw [← ht]; exact k3⟩
theorem co_slice {w : World} {B : Nat} {v : Value} {E : List Op5} (h : CoO w B v E) : ∃ p n c, v = .slice p n c := by
  obtain ⟨D, ⟨p, c, e, _⟩, _⟩ := h.re
  exact ⟨p, _, c, e⟩
theorem m39 (x : Int) : ∃ M : Int, wrap64 ((IntKind.u64.wrap x).tmod 549755813888) = M ∧ 0 ≤ M ∧ M < 549755813888 := by
  obtain ⟨U, hU⟩ : ∃ U, IntKind.u64.wrap x = U := ⟨_, rfl⟩
  have h0 : 0 ≤ U := by
    rw [← hU, IntKind.wrap_u64]; omega
  rw [hU]
  have h1 := Int.tmod_lt_of_pos U (show (0 : Int) < 549755813888 by omega)
  have h2 : 0 ≤ U.tmod 549755813888 := Int.tmod_nonneg _ h0
  exact ⟨_, rfl, by unfold wrap64; omega, by unfold wrap64; omega⟩
theorem sh_canon {E : List Op5} (h : canonB E = true) : CanO E := (canB_can h).1
set_option maxHeartbeats 8000000 in
set_option maxRecDepth 100000 in
theorem measureShifts_any {I : List Nat} {a : Nat → Addr} (va : Value) (x1 x2 : Int) (A : List Op5) (w : World) (hJ : ∀ i ∈ IR8, i ∈ I) (hS : Std I a w) (hN : Sent a w) (ra : ReO w va A) (fA : FitL A) (lA : A.length + 1 ≤ 1048576) (tA : txtS A ≤ 1048576) (i1 : -9223372036854775808 ≤ x1 ∧ x1 ≤ 9223372036854775807) (i2 : -9223372036854775808 ≤ x2 ∧ x2 ≤ 9223372036854775807) :
    Calls Tryz.prog 6 #[va, .int .i64 x1, .int .i64 x2] w fun r w' => r = .returned (.bool true) ∧ Below w.heap.size w w' := by
  obtain ⟨hI, h11⟩ := ir8 hJ
  have cF := fixed8_any w hI h11 hS
  have cO : Hid (∀ W, Below w.heap.size w W → Calls Tryz.prog 8 #[va] W fun r w' => ∃ dv, r = .returned dv ∧ (canonB A = true → (∃ q, dv = .pointer (some ⟨q, 0, none⟩)) ∧ DlE w' W.heap.size W.heap.size dv A) ∧ (canonB A = false → dv = .pointer none) ∧ Below W.heap.size W w') := fun W hW => of8_any va A W hI (hS.below hW) (ra.below hW) fA (by omega) (by omega)
  have cN : Hid (∀ e, e ≤ 19 → ∀ W, Below w.heap.size w W → Calls Tryz.prog 19 #[errOf a e] W fun r w' => r = .returned (.int .i64 e) ∧ Below W.heap.size W w') := fun e he W hW => num_of (hN.below hW) e he
  have cS : Hid (∀ (E : List Op5) (u : Value) (B1 B2 : Nat) (n : Int) W, Below w.heap.size w W → DlE W B1 B2 u E → E.length + 1 ≤ 2097152 → 0 ≤ n ∧ n ≤ 1099511627776 → Calls Tryz.prog 20 #[u, .int .i64 n] W fun r w' => ∃ dv er, r = .returned (.tuple #[dv, er]) ∧ (FitSh E n → er = .nilIface ∧ (∃ q, dv = .pointer (some ⟨q, 0, none⟩)) ∧ ∃ C1 C2, DlE w' C1 C2 dv (shift8 E n)) ∧ (¬ FitSh E n → er = errV a 10 ∧ dv = .pointer none) ∧ Below W.heap.size W w') := fun E u B1 B2 n W hW hE hl hn => by
    refine (shift8_any u E n W hI h11 (hS.below hW) hE hl (by omega)).mono ?_
    rintro r w' ⟨dv, er, rfl, ⟨-, y2⟩, y3⟩
    obtain ⟨z1, z2⟩ := y2 (by omega)
    refine ⟨dv, er, rfl, fun h => ?_, z2, y3⟩
    obtain ⟨e1, C1, C2, hd⟩ := z1 h
    obtain ⟨q, pv, PL, e, _⟩ := id hd
    exact ⟨e1, ⟨q, e⟩, C1, C2, (shift_dle hE hn hl h hd).1⟩
  have cI : Hid (∀ (E F : List Op5) (u v : Value) (B1 B2 : Nat) W, DlE W B1 B2 u E → ReO W v F → F.length ≤ 2097152 → (∀ e ∈ F, e.A.length ≤ 1048576) → Calls Tryz.prog 16 #[u, v] W fun r w' => r = .returned (.bool (decide (E = F))) ∧ Below W.heap.size W w') := fun E F u v B1 B2 W h1 h2 h3 h4 => is8_any u v E F W h1 h2 h3 h4
  have HA : Hid (∀ W, Below w.heap.size w W → ReO W va A) := fun W hW => ra.below hW
  have HF : Hid (FitL A ∧ A.length + 1 ≤ 1048576) := ⟨fA, lA⟩
  obtain ⟨D0, ⟨p, cap, rfl, _⟩, hre0⟩ := id ra
  have HDl : Hid (D0.length = A.length) := forall2_len hre0
  obtain ⟨M, hM, m0, m1⟩ := m39 x1
  obtain ⟨N, hN', n0, n1⟩ := m39 x2
  clear hI h11 hJ hS hN ra fA lA tA i1 i2
  go_enter Tryz.func6, Tryz.ntmps6
  go_wp2_with fail
  refine cF.mono ?_; rintro r w1 ⟨rfl, b1⟩
  have c1 := cO.out w1 b1
  clear cF cO
  go_wp2_with fail
  refine c1.mono ?_; rintro r w2 ⟨dv, rfl, h1, h0, b2⟩
  have hb2 := b1.trans (b2.mono b1.size)
  clear c1 b1 b2
  by_cases hc : canonB A = true
  · obtain ⟨⟨q, rfl⟩, hd⟩ := h1 hc
    have HD2 := Hid.mk8 hd
    have HC := Hid.mk8 (sh_canon hc)
    -- GEN
    clear h1 h0 hc hd
    have c1 := cS.out A _ _ _ 0 w2 hb2 HD2.out (by have := HF.out.2; omega) (by omega)
    go_wp2_with fail
    refine c1.mono ?_; rintro r w1 ⟨dv, er, rfl, y1, -, b1⟩
    have hb1 := hb2.trans (b1.mono hb2.size)
    have HD_1 := Hid.mk8 (HD2.out.below b1)
    obtain ⟨rfl, ⟨q0, rfl⟩, C1, C2, hd0⟩ := y1 (Or.inr (by have := HD_1.out.fits; unfold Fits8 at this; omega))
    rw [show shift8 A 0 = A from if_pos (Or.inl rfl)] at hd0
    have HZ_1 := Hid.mk8 (hd0)
    clear c1 b1 hb2 HD2 y1 hd0
    have c2 := cI.out A A _ (.slice p D0.length cap) _ _ w1 HZ_1.out (HA.out w1 hb1) (by have := HF.out.2; omega) (fun e he => (HF.out.1 e he).n)
    rw [decide_eq_true rfl] at c2
    go_wp2_with fail
    refine c2.mono ?_; rintro r w2 ⟨rfl, b2⟩
    have hb2 := hb1.trans (b2.mono hb1.size)
    have HD_2 := Hid.mk8 (HD_1.out.below b2)
    have HZ_2 := Hid.mk8 (HZ_1.out.below b2)
    clear c2 b2 hb1 HD_1 HZ_1
    have hMN : IntKind.i64.wrap (M + N) = M + N := by rw [IntKind.wrap_i64]; omega
    by_cases hfit : FitSh A (M + N)
    · have hfM : FitSh A M := hfit.imp id (fun h => by have := sums_nn HD_2.out.wel; omega)
      have ca3 := cS.out A _ _ _ (M) w2 hb2 HD_2.out (by have := HF.out.2; omega) (by omega)
      go_wp2_with fail
      refine ca3.mono ?_; rintro r wa3 ⟨dv, er, rfl, y1, -, ba3⟩
      have hba3 := hb2.trans (ba3.mono hb2.size)
      have HD_a3 := Hid.mk8 (HD_2.out.below ba3)
      obtain ⟨rfl, ⟨q5, rfl⟩, C1, C2, hd0⟩ := y1 hfM
      have HO_a3 := Hid.mk8 (hd0)
      clear ca3 ba3 hb2 HD_2 y1 hd0
      have hO2 := (shift_dle HD_a3.out (n := M) (by omega) (by have := HF.out.2; omega) hfM HO_a3.out.d).2.1
      have ca4 := cS.out A _ _ _ (M + N) wa3 hba3 HD_a3.out (by have := HF.out.2; omega) (by omega)
      go_wp2_with fail
      refine ca4.mono ?_; rintro r wa4 ⟨dv, er, rfl, y1, -, ba4⟩
      have hba4 := hba3.trans (ba4.mono hba3.size)
      have HD_a4 := Hid.mk8 (HD_a3.out.below ba4)
      have HO_a4 := Hid.mk8 (HO_a3.out.below ba4)
      obtain ⟨rfl, ⟨q6, rfl⟩, C1, C2, hd0⟩ := y1 hfit
      have HB_a4 := Hid.mk8 (hd0)
      clear ca4 ba4 hba3 HD_a3 HO_a3 y1 hd0
      by_cases hnil : A = []
      · have hz : ¬ ((D0.length : Int) > 0) := by rw [HDl.out, hnil]; simp
        have hzb : ((D0.length : Int) == 0) = true := by rw [HDl.out, hnil]; rfl
        have e2 : shift8 (shift8 A M) N = shift8 A (M + N) := shift_two HC.out m0 n0
        have hf2 : FitSh (shift8 A M) N := Or.inl (by rw [hnil]; exact if_pos (Or.inr rfl))
        clear hfit hfM hnil
        have cn5 := cS.out (shift8 A M) _ _ _ (N) wa4 hba4 HO_a4.out (by have := HF.out.2; omega) (by omega)
        go_wp2_with fail
        refine cn5.mono ?_; rintro r wn5 ⟨dv, er, rfl, y1, -, bn5⟩
        have hbn5 := hba4.trans (bn5.mono hba4.size)
        have HD_n5 := Hid.mk8 (HD_a4.out.below bn5)
        have HO_n5 := Hid.mk8 (HO_a4.out.below bn5)
        have HB_n5 := Hid.mk8 (HB_a4.out.below bn5)
        obtain ⟨rfl, ⟨q7, rfl⟩, C1, C2, hd0⟩ := y1 hf2
        have HT_n5 := Hid.mk8 (hd0)
        clear cn5 bn5 hba4 HD_a4 HO_a4 HB_a4 y1 hd0
        have cn6 := num_nil wn5
        go_wp2_with fail
        refine cn6.mono ?_; rintro r wq ⟨rfl, hwq⟩; obtain rfl := hwq.symm
        clear cn6
        have cn7 := num_nil wn5
        go_wp2_with fail
        refine cn7.mono ?_; rintro r wq ⟨rfl, hwq⟩; obtain rfl := hwq.symm
        clear cn7
        have cn8 := ops_any _ _ wn5 HB_n5.out.d HB_n5.out.g HB_n5.out.n (Nat.le_trans HB_n5.out.len (by decide))
        go_wp2_with fail
        refine cn8.mono ?_; rintro r wn8 ⟨vo, rfl, hco, bn8⟩
        have hbn8 := hbn5.trans (bn8.mono hbn5.size)
        have HD_n8 := Hid.mk8 (HD_n5.out.below bn8)
        have HO_n8 := Hid.mk8 (HO_n5.out.below bn8)
        have HB_n8 := Hid.mk8 (HB_n5.out.below bn8)
        have HT_n8 := Hid.mk8 (HT_n5.out.below bn8)
        obtain ⟨po, no, co, rfl⟩ := co_slice hco
        have hre := hco.re
        rw [← e2] at hre
        have HV_n8 := Hid.mk8 (hre)
        clear cn8 bn8 hbn5 HD_n5 HO_n5 HB_n5 HT_n5 hco hre
        have cn9 := cI.out _ _ _ _ _ _ wn8 HT_n8.out HV_n8.out HT_n8.out.len (fun e he => (HT_n8.out.fit e he).n)
        rw [decide_eq_true rfl] at cn9
        go_wp2_with fail
        refine cn9.mono ?_; rintro r wn9 ⟨rfl, bn9⟩
        have hbn9 := hbn8.trans (bn9.mono hbn8.size)
        have HD_n9 := Hid.mk8 (HD_n8.out.below bn9)
        have HO_n9 := Hid.mk8 (HO_n8.out.below bn9)
        have HB_n9 := Hid.mk8 (HB_n8.out.below bn9)
        have HT_n9 := Hid.mk8 (HT_n8.out.below bn9)
        have HV_n9 := Hid.mk8 (HV_n8.out.below bn9)
        clear cn9 bn9 hbn8 HD_n8 HO_n8 HB_n8 HT_n8 HV_n8
        go_wp2
        go_ret
        exact ⟨rfl, hbn9⟩
      · have hz : ((D0.length : Int) > 0) := by have := List.length_pos_iff.2 hnil; have := HDl.out; omega
        have hzb : ((D0.length : Int) == 0) = false := by have := List.length_pos_iff.2 hnil; have := HDl.out; rw [beq_eq_false_iff_ne]; omega
        have e2 : shift8 (shift8 A M) N = shift8 A (M + N) := shift_two HC.out m0 n0
        obtain ⟨f1, f2⟩ := hfit.resolve_left hnil
        have s1 := shift_sums HC.out m0 hnil
        have s2 := shift_sums HC.out (show 0 ≤ M + N by omega) hnil
        have hf2 : FitSh (shift8 A M) N := Or.inr (by omega)
        have hnn := sums_nn HD_a4.out.wel
        obtain ⟨BB, hBB⟩ : ∃ x, sumB A = x := ⟨_, rfl⟩
        obtain ⟨RR, hRR⟩ : ∃ x, sumR A = x := ⟨_, rfl⟩
        rw [hBB] at f1 hnn s2
        rw [hRR] at f2 hnn
        have s2' := s2.1
        have k1 : IntKind.i64.wrap (BB + M) = BB + M := by rw [IntKind.wrap_i64]; omega
        have k2 : IntKind.i64.wrap (BB + M + N) = BB + M + N := by rw [IntKind.wrap_i64]; omega
        have k3 : IntKind.i64.wrap (RR + M) = RR + M := by rw [IntKind.wrap_i64]; omega
        have k4 : IntKind.i64.wrap (RR + M + N) = RR + M + N := by rw [IntKind.wrap_i64]; omega
        have k5 : ¬ (BB + M + N > 1099511627776) := by omega
        have k6 : ¬ (RR + M + N > 1099511627776) := by omega
        have k7 : (M + N + BB == BB + M + N) = true := by rw [beq_iff_eq]; omega
        clear hfit hfM hnil s1 s2 f1 f2
        have cm5 := base8_any _ _ wa4 HD_a4.out
        rw [hBB] at cm5
        go_wp2_with fail
        refine cm5.mono ?_; rintro r wm5 ⟨rfl, bm5⟩
        have hbm5 := hba4.trans (bm5.mono hba4.size)
        have HD_m5 := Hid.mk8 (HD_a4.out.below bm5)
        have HO_m5 := Hid.mk8 (HO_a4.out.below bm5)
        have HB_m5 := Hid.mk8 (HB_a4.out.below bm5)
        clear cm5 bm5 hba4 HD_a4 HO_a4 HB_a4
        have cm6 := result8_any _ _ wm5 HD_m5.out
        rw [hRR] at cm6
        go_wp2_with fail
        refine cm6.mono ?_; rintro r wm6 ⟨rfl, bm6⟩
        have hbm6 := hbm5.trans (bm6.mono hbm5.size)
        have HD_m6 := Hid.mk8 (HD_m5.out.below bm6)
        have HO_m6 := Hid.mk8 (HO_m5.out.below bm6)
        have HB_m6 := Hid.mk8 (HB_m5.out.below bm6)
        clear cm6 bm6 hbm5 HD_m5 HO_m5 HB_m5
        have cm7 := cS.out (shift8 A M) _ _ _ (N) wm6 hbm6 HO_m6.out (by have := HF.out.2; omega) (by omega)
        go_wp2_with fail
        refine cm7.mono ?_; rintro r wm7 ⟨dv, er, rfl, y1, -, bm7⟩
        have hbm7 := hbm6.trans (bm7.mono hbm6.size)
        have HD_m7 := Hid.mk8 (HD_m6.out.below bm7)
        have HO_m7 := Hid.mk8 (HO_m6.out.below bm7)
        have HB_m7 := Hid.mk8 (HB_m6.out.below bm7)
        obtain ⟨rfl, ⟨q7, rfl⟩, C1, C2, hd0⟩ := y1 hf2
        have HT_m7 := Hid.mk8 (hd0)
        clear cm7 bm7 hbm6 HD_m6 HO_m6 HB_m6 y1 hd0
        have cm8 := num_nil wm7
        go_wp2_with fail
        refine cm8.mono ?_; rintro r wq ⟨rfl, hwq⟩; obtain rfl := hwq.symm
        clear cm8
        have cm9 := num_nil wm7
        go_wp2_with fail
        refine cm9.mono ?_; rintro r wq ⟨rfl, hwq⟩; obtain rfl := hwq.symm
        clear cm9
        have cm10 := ops_any _ _ wm7 HB_m7.out.d HB_m7.out.g HB_m7.out.n (Nat.le_trans HB_m7.out.len (by decide))
        go_wp2_with fail
        refine cm10.mono ?_; rintro r wm10 ⟨vo, rfl, hco, bm10⟩
        have hbm10 := hbm7.trans (bm10.mono hbm7.size)
        have HD_m10 := Hid.mk8 (HD_m7.out.below bm10)
        have HO_m10 := Hid.mk8 (HO_m7.out.below bm10)
        have HB_m10 := Hid.mk8 (HB_m7.out.below bm10)
        have HT_m10 := Hid.mk8 (HT_m7.out.below bm10)
        obtain ⟨po, no, co, rfl⟩ := co_slice hco
        have hre := hco.re
        rw [← e2] at hre
        have HV_m10 := Hid.mk8 (hre)
        clear cm10 bm10 hbm7 HD_m7 HO_m7 HB_m7 HT_m7 hco hre
        have cm11 := cI.out _ _ _ _ _ _ wm10 HT_m10.out HV_m10.out HT_m10.out.len (fun e he => (HT_m10.out.fit e he).n)
        rw [decide_eq_true rfl] at cm11
        go_wp2_with fail
        refine cm11.mono ?_; rintro r wm11 ⟨rfl, bm11⟩
        have hbm11 := hbm10.trans (bm11.mono hbm10.size)
        have HD_m11 := Hid.mk8 (HD_m10.out.below bm11)
        have HO_m11 := Hid.mk8 (HO_m10.out.below bm11)
        have HB_m11 := Hid.mk8 (HB_m10.out.below bm11)
        have HT_m11 := Hid.mk8 (HT_m10.out.below bm11)
        have HV_m11 := Hid.mk8 (HV_m10.out.below bm11)
        clear cm11 bm11 hbm10 HD_m10 HO_m10 HB_m10 HT_m10 HV_m10
        have cm12 := base8_any _ _ wm11 HB_m11.out
        rw [s2'] at cm12
        go_wp2_with fail
        refine cm12.mono ?_; rintro r wm12 ⟨rfl, bm12⟩
        have hbm12 := hbm11.trans (bm12.mono hbm11.size)
        have HD_m12 := Hid.mk8 (HD_m11.out.below bm12)
        have HO_m12 := Hid.mk8 (HO_m11.out.below bm12)
        have HB_m12 := Hid.mk8 (HB_m11.out.below bm12)
        have HT_m12 := Hid.mk8 (HT_m11.out.below bm12)
        clear cm12 bm12 hbm11 HD_m11 HO_m11 HB_m11 HT_m11
        have cm13 := base8_any _ _ wm12 HD_m12.out
        rw [hBB] at cm13
        go_wp2_with fail
        refine cm13.mono ?_; rintro r wm13 ⟨rfl, bm13⟩
        have hbm13 := hbm12.trans (bm13.mono hbm12.size)
        have HD_m13 := Hid.mk8 (HD_m12.out.below bm13)
        have HO_m13 := Hid.mk8 (HO_m12.out.below bm13)
        have HB_m13 := Hid.mk8 (HB_m12.out.below bm13)
        have HT_m13 := Hid.mk8 (HT_m12.out.below bm13)
        clear cm13 bm13 hbm12 HD_m12 HO_m12 HB_m12 HT_m12
        go_wp2
        go_ret
        exact ⟨rfl, hbm13⟩
    · have hnil : A ≠ [] := fun h => hfit (Or.inl h)
      have hz : ((D0.length : Int) > 0) := by have := List.length_pos_iff.2 hnil; have := HDl.out; omega
      have hnn := sums_nn HD_2.out.wel
      have hff := HD_2.out.fits
      unfold Fits8 at hff
      have hov : sumB A + M + N > 1099511627776 ∨ (¬ (sumB A + M + N > 1099511627776) ∧ sumR A + M + N > 1099511627776) := by
        have h : ¬ (M + N + sumB A ≤ 1099511627776 ∧ M + N + sumR A ≤ 1099511627776) := fun h => hfit (Or.inr h)
        omega
      have k1 : IntKind.i64.wrap (sumB A + M) = sumB A + M := by rw [IntKind.wrap_i64]; omega
      have k2 : IntKind.i64.wrap (sumB A + M + N) = sumB A + M + N := by rw [IntKind.wrap_i64]; omega
      have k3 : IntKind.i64.wrap (sumR A + M) = sumR A + M := by rw [IntKind.wrap_i64]; omega
      have k4 : IntKind.i64.wrap (sumR A + M + N) = sumR A + M + N := by rw [IntKind.wrap_i64]; omega
      by_cases hfM : FitSh A M
      · have s1 := shift_sums HC.out m0 hnil
        have hsn := shift_ne HC.out m0 hnil
        have hf2 : ¬ FitSh (shift8 A M) N := fun h => hfit (Or.inr (by have := h.resolve_left hsn; omega))
        have ce3 := cS.out A _ _ _ (M) w2 hb2 HD_2.out (by have := HF.out.2; omega) (by omega)
        go_wp2_with fail
        refine ce3.mono ?_; rintro r we3 ⟨dv, er, rfl, y1, -, be3⟩
        have hbe3 := hb2.trans (be3.mono hb2.size)
        have HD_e3 := Hid.mk8 (HD_2.out.below be3)
        obtain ⟨rfl, ⟨q5, rfl⟩, C1, C2, hd0⟩ := y1 hfM
        have HO_e3 := Hid.mk8 (hd0)
        clear ce3 be3 hb2 HD_2 y1 hd0
        have hO2 := (shift_dle HD_e3.out (n := M) (by omega) (by have := HF.out.2; omega) hfM HO_e3.out.d).2.1
        have ce4 := cS.out A _ _ _ (M + N) we3 hbe3 HD_e3.out (by have := HF.out.2; omega) (by omega)
        go_wp2_with fail
        refine ce4.mono ?_; rintro r we4 ⟨dv, er, rfl, -, y1, be4⟩
        have hbe4 := hbe3.trans (be4.mono hbe3.size)
        have HD_e4 := Hid.mk8 (HD_e3.out.below be4)
        have HO_e4 := Hid.mk8 (HO_e3.out.below be4)
        obtain ⟨rfl, rfl⟩ := y1 hfit
        clear ce4 be4 hbe3 HD_e3 HO_e3 y1
        clear hfit hfM s1 hsn hnil hff
        obtain ⟨BB, hBB⟩ : ∃ x, sumB A = x := ⟨_, rfl⟩
        obtain ⟨RR, hRR⟩ : ∃ x, sumR A = x := ⟨_, rfl⟩
        rw [hBB] at k1 k2 hov
        rw [hRR] at k3 k4 hov
        rcases hov with hov | ⟨hov, hov2⟩
        · clear hnn
          have cep5 := base8_any _ _ we4 HD_e4.out
          rw [hBB] at cep5
          go_wp2_with fail
          refine cep5.mono ?_; rintro r wep5 ⟨rfl, bep5⟩
          have hbep5 := hbe4.trans (bep5.mono hbe4.size)
          have HD_ep5 := Hid.mk8 (HD_e4.out.below bep5)
          have HO_ep5 := Hid.mk8 (HO_e4.out.below bep5)
          clear cep5 bep5 hbe4 HD_e4 HO_e4
          have cep6 := cN.out 11 (by decide) wep5 hbep5
          rw [show errOf a 11 = errV a 10 from rfl] at cep6
          go_wp2_with fail
          refine cep6.mono ?_; rintro r wep6 ⟨rfl, bep6⟩
          have hbep6 := hbep5.trans (bep6.mono hbep5.size)
          have HD_ep6 := Hid.mk8 (HD_ep5.out.below bep6)
          have HO_ep6 := Hid.mk8 (HO_ep5.out.below bep6)
          clear cep6 bep6 hbep5 HD_ep5 HO_ep5
          have cep7 := cS.out (shift8 A M) _ _ _ (N) wep6 hbep6 HO_ep6.out (by have := HF.out.2; omega) (by omega)
          go_wp2_with fail
          refine cep7.mono ?_; rintro r wep7 ⟨dv, er, rfl, -, y1, bep7⟩
          have hbep7 := hbep6.trans (bep7.mono hbep6.size)
          have HD_ep7 := Hid.mk8 (HD_ep6.out.below bep7)
          have HO_ep7 := Hid.mk8 (HO_ep6.out.below bep7)
          obtain ⟨rfl, rfl⟩ := y1 hf2
          clear cep7 bep7 hbep6 HD_ep6 HO_ep6 y1
          have cep8 := cN.out 11 (by decide) wep7 hbep7
          rw [show errOf a 11 = errV a 10 from rfl] at cep8
          go_wp2_with fail
          refine cep8.mono ?_; rintro r wep8 ⟨rfl, bep8⟩
          have hbep8 := hbep7.trans (bep8.mono hbep7.size)
          have HD_ep8 := Hid.mk8 (HD_ep7.out.below bep8)
          have HO_ep8 := Hid.mk8 (HO_ep7.out.below bep8)
          clear cep8 bep8 hbep7 HD_ep7 HO_ep7
          have cep9 := cN.out 11 (by decide) wep8 hbep8
          rw [show errOf a 11 = errV a 10 from rfl] at cep9
          go_wp2_with fail
          refine cep9.mono ?_; rintro r wep9 ⟨rfl, bep9⟩
          have hbep9 := hbep8.trans (bep9.mono hbep8.size)
          have HD_ep9 := Hid.mk8 (HD_ep8.out.below bep9)
          have HO_ep9 := Hid.mk8 (HO_ep8.out.below bep9)
          clear cep9 bep9 hbep8 HD_ep8 HO_ep8
          go_wp2
          go_ret
          exact ⟨rfl, hbep9⟩
        · clear hnn
          have ceq5 := base8_any _ _ we4 HD_e4.out
          rw [hBB] at ceq5
          go_wp2_with fail
          refine ceq5.mono ?_; rintro r weq5 ⟨rfl, beq5⟩
          have hbeq5 := hbe4.trans (beq5.mono hbe4.size)
          have HD_eq5 := Hid.mk8 (HD_e4.out.below beq5)
          have HO_eq5 := Hid.mk8 (HO_e4.out.below beq5)
          clear ceq5 beq5 hbe4 HD_e4 HO_e4
          have ceq6 := result8_any _ _ weq5 HD_eq5.out
          rw [hRR] at ceq6
          go_wp2_with fail
          refine ceq6.mono ?_; rintro r weq6 ⟨rfl, beq6⟩
          have hbeq6 := hbeq5.trans (beq6.mono hbeq5.size)
          have HD_eq6 := Hid.mk8 (HD_eq5.out.below beq6)
          have HO_eq6 := Hid.mk8 (HO_eq5.out.below beq6)
          clear ceq6 beq6 hbeq5 HD_eq5 HO_eq5
          have ceq7 := cN.out 11 (by decide) weq6 hbeq6
          rw [show errOf a 11 = errV a 10 from rfl] at ceq7
          go_wp2_with fail
          refine ceq7.mono ?_; rintro r weq7 ⟨rfl, beq7⟩
          have hbeq7 := hbeq6.trans (beq7.mono hbeq6.size)
          have HD_eq7 := Hid.mk8 (HD_eq6.out.below beq7)
          have HO_eq7 := Hid.mk8 (HO_eq6.out.below beq7)
          clear ceq7 beq7 hbeq6 HD_eq6 HO_eq6
          have ceq8 := cS.out (shift8 A M) _ _ _ (N) weq7 hbeq7 HO_eq7.out (by have := HF.out.2; omega) (by omega)
          go_wp2_with fail
          refine ceq8.mono ?_; rintro r weq8 ⟨dv, er, rfl, -, y1, beq8⟩
          have hbeq8 := hbeq7.trans (beq8.mono hbeq7.size)
          have HD_eq8 := Hid.mk8 (HD_eq7.out.below beq8)
          have HO_eq8 := Hid.mk8 (HO_eq7.out.below beq8)
          obtain ⟨rfl, rfl⟩ := y1 hf2
          clear ceq8 beq8 hbeq7 HD_eq7 HO_eq7 y1
          have ceq9 := cN.out 11 (by decide) weq8 hbeq8
          rw [show errOf a 11 = errV a 10 from rfl] at ceq9
          go_wp2_with fail
          refine ceq9.mono ?_; rintro r weq9 ⟨rfl, beq9⟩
          have hbeq9 := hbeq8.trans (beq9.mono hbeq8.size)
          have HD_eq9 := Hid.mk8 (HD_eq8.out.below beq9)
          have HO_eq9 := Hid.mk8 (HO_eq8.out.below beq9)
          clear ceq9 beq9 hbeq8 HD_eq8 HO_eq8
          have ceq10 := cN.out 11 (by decide) weq9 hbeq9
          rw [show errOf a 11 = errV a 10 from rfl] at ceq10
          go_wp2_with fail
          refine ceq10.mono ?_; rintro r weq10 ⟨rfl, beq10⟩
          have hbeq10 := hbeq9.trans (beq10.mono hbeq9.size)
          have HD_eq10 := Hid.mk8 (HD_eq9.out.below beq10)
          have HO_eq10 := Hid.mk8 (HO_eq9.out.below beq10)
          clear ceq10 beq10 hbeq9 HD_eq9 HO_eq9
          go_wp2
          go_ret
          exact ⟨rfl, hbeq10⟩
      · have cf3 := cS.out A _ _ _ (M) w2 hb2 HD_2.out (by have := HF.out.2; omega) (by omega)
        go_wp2_with fail
        refine cf3.mono ?_; rintro r wf3 ⟨dv, er, rfl, -, y1, bf3⟩
        have hbf3 := hb2.trans (bf3.mono hb2.size)
        have HD_f3 := Hid.mk8 (HD_2.out.below bf3)
        obtain ⟨rfl, rfl⟩ := y1 hfM
        clear cf3 bf3 hb2 HD_2 y1
        have cf4 := cS.out A _ _ _ (M + N) wf3 hbf3 HD_f3.out (by have := HF.out.2; omega) (by omega)
        go_wp2_with fail
        refine cf4.mono ?_; rintro r wf4 ⟨dv, er, rfl, -, y1, bf4⟩
        have hbf4 := hbf3.trans (bf4.mono hbf3.size)
        have HD_f4 := Hid.mk8 (HD_f3.out.below bf4)
        obtain ⟨rfl, rfl⟩ := y1 hfit
        clear cf4 bf4 hbf3 HD_f3 y1
        clear hfit hfM hnil hff
        obtain ⟨BB, hBB⟩ : ∃ x, sumB A = x := ⟨_, rfl⟩
        obtain ⟨RR, hRR⟩ : ∃ x, sumR A = x := ⟨_, rfl⟩
        rw [hBB] at k1 k2 hov
        rw [hRR] at k3 k4 hov
        rcases hov with hov | ⟨hov, hov2⟩
        · clear hnn
          have cfp5 := base8_any _ _ wf4 HD_f4.out
          rw [hBB] at cfp5
          go_wp2_with fail
          refine cfp5.mono ?_; rintro r wfp5 ⟨rfl, bfp5⟩
          have hbfp5 := hbf4.trans (bfp5.mono hbf4.size)
          have HD_fp5 := Hid.mk8 (HD_f4.out.below bfp5)
          clear cfp5 bfp5 hbf4 HD_f4
          have cfp6 := cN.out 11 (by decide) wfp5 hbfp5
          rw [show errOf a 11 = errV a 10 from rfl] at cfp6
          go_wp2_with fail
          refine cfp6.mono ?_; rintro r wfp6 ⟨rfl, bfp6⟩
          have hbfp6 := hbfp5.trans (bfp6.mono hbfp5.size)
          have HD_fp6 := Hid.mk8 (HD_fp5.out.below bfp6)
          clear cfp6 bfp6 hbfp5 HD_fp5
          go_wp2
          go_ret
          exact ⟨rfl, hbfp6⟩
        · clear hnn
          have cfq5 := base8_any _ _ wf4 HD_f4.out
          rw [hBB] at cfq5
          go_wp2_with fail
          refine cfq5.mono ?_; rintro r wfq5 ⟨rfl, bfq5⟩
          have hbfq5 := hbf4.trans (bfq5.mono hbf4.size)
          have HD_fq5 := Hid.mk8 (HD_f4.out.below bfq5)
          clear cfq5 bfq5 hbf4 HD_f4
          have cfq6 := result8_any _ _ wfq5 HD_fq5.out
          rw [hRR] at cfq6
          go_wp2_with fail
          refine cfq6.mono ?_; rintro r wfq6 ⟨rfl, bfq6⟩
          have hbfq6 := hbfq5.trans (bfq6.mono hbfq5.size)
          have HD_fq6 := Hid.mk8 (HD_fq5.out.below bfq6)
          clear cfq6 bfq6 hbfq5 HD_fq5
          have cfq7 := cN.out 11 (by decide) wfq6 hbfq6
          rw [show errOf a 11 = errV a 10 from rfl] at cfq7
          go_wp2_with fail
          refine cfq7.mono ?_; rintro r wfq7 ⟨rfl, bfq7⟩
          have hbfq7 := hbfq6.trans (bfq7.mono hbfq6.size)
          have HD_fq7 := Hid.mk8 (HD_fq6.out.below bfq7)
          clear cfq7 bfq7 hbfq6 HD_fq6
          go_wp2
          go_ret
          exact ⟨rfl, hbfq7⟩
  · have hc' : canonB A = false := by simpa using hc
    obtain rfl := h0 hc'
    clear h1 h0 hc hc'
    go_wp2
    go_ret
    exact ⟨rfl, hb2⟩
end Go.Proofs.YtgimcloadjjefabGreatDoor
