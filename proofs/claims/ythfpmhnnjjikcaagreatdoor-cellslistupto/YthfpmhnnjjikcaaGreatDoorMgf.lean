/- A piece cut in two. vellumlaw08: fixed answers true. The document's answer: cells of inserts, List. The document's answer: Document and List of any operations. A piece cut in two; a piece taken. What a Walker takes. Next and Rest of a Walker. measure: take: the next cells of a Walker, as pieces. A delta of a list made canonical. measure: Slice. cells.At. Of all lists of operations and all places vellumlaw09.CellsList answers true. -/
import Derived.Test.YthfpmhnnjjikcaaGreatDoorMgc
import Derived.Test.YthfpmhnnjjikcaaGreatDoorCf
import Derived.Test.YthfpmhnnjjikcaaGreatDoorCp
import Derived.BigRegion
import Derived.Deep.RegionHeld3
import Derived.Deep.DeepCutAuto
import Derived.Test.YthfpmhnnjjikcaaGreatDoorMgd
import Derived.Deep.RegionWith
import Derived.Test.YthfpmhnnjjikcaaGreatDoorMga
import Derived.Test.YthfpmhnnjjikcaaGreatDoorSw
import Derived.PlainAid
import Derived.Handy
import Derived.Lib.QuietBelow
import Derived.BigQuiet
import Derived.Test.YthfpmhnnjjikcaaGreatDoorOwn
import Derived.OwnWalk
import Derived.Laws.AppendOwn
import Derived.Test.YthfpmhnnjjikcaaGreatDoorVs
import Derived.Shelf.Unicode.ValidAny
import Derived.Test.YthfpmhnnjjikcaaGreatDoorSc
import Derived.Test.YthfpmhnnjjikcaaGreatDoorUtf
import Derived.Test.YthfpmhnnjjikcaaGreatDoorPc
import Derived.Test.YthfpmhnnjjikcaaGreatDoorMge
import Derived.Test.YthfpmhnnjjikcaaGreatDoorQb

/- A piece cut in two. -/
namespace Go.Proofs.YthfpmhnnjjikcaaGreatDoor
open Go Go.RowKit Go.Lib
set_option linter.unusedVariables false
theorem heap_drw7 (W : World) (k : Nat) : W.drew.heap[k]? = W.heap[k]? := rfl
theorem box3 (w : World) (o : Array Value) (T : TypeId) (W : World) (hW : (((w.alloc (.cells o T)).alloc (.cells o T)).alloc (.cells o T)).drew = W) : W.heap[w.heap.size + 1]? = some (.cells o T (0, 0)) ∧ W.heap[w.heap.size + 1 + 1]? = some (.cells o T (0, 0)) ∧ Below (w.heap.size + 1) (w.alloc (.cells o T)) W := by
  subst hW
  have e1 := heap_alloc_new (w.alloc (.cells o T)) (.cells o T)
  have e2 := heap_alloc_new ((w.alloc (.cells o T)).alloc (.cells o T)) (.cells o T)
  simp only [World.size_alloc] at e1 e2
  refine ⟨?_, e2, ?_⟩
  · exact ((Below.refl ((w.alloc (.cells o T)).alloc (.cells o T)).heap.size _).alloc (Nat.le_refl _) _).block (w.heap.size + 1) (by simp) |>.trans e1
  · exact (((Below.refl (w.alloc (.cells o T)).heap.size _).alloc (Nat.le_refl _) _).alloc (by simp) _).drew.mono (by simp)
set_option maxHeartbeats 2000000 in
set_option maxRecDepth 100000 in
theorem cutText_any (p : Option Addr) (l c : Nat) (t : ByteArray) (N : Int) (A : List A2) (rs : List Nat) (m : Nat) (w : World) (hR : RN w (.slice p l c) A) (hl : A.length ≤ 2097152)
    (hv : t.data.toList = encs rs) (hs : ∀ r ∈ rs, scal r) (hm : m ≤ rs.length) (ht : t.size ≤ 8388608) (hrl : rs.length ≤ t.size) (hN : (m : Int) ≤ N) (hN2 : N ≤ 8388608) :
    Calls Tryz.prog 126 #[.agg #[.slice p l c, .string t, .int .i64 N], .int .i64 m] w fun r w' => ∃ p' c', r = .returned (.tuple #[.iface 188 (.agg #[.slice p' A.length c', .string (t.extract 0 (pos rs m)), .int .i64 m]), .iface 188 (.agg #[.slice p l c, .string (t.extract (pos rs m) t.size), .int .i64 (N - m)])]) ∧ OwnA w' w.heap.size (.slice p' A.length c') A ∧ Below w.heap.size w w' := by
  have cP := fun W => placeOf_any t rs m W hv hs hm (by omega) hrl
  have cA := fun W (hW : Below w.heap.size w W) => attributes_any (.slice p l c) A W (hR.below hW).row hR.nz hl
  have hpt : pos rs m ≤ t.size := by have := pos_le rs m; have := size_toList t; rw [hv] at this; omega
  obtain ⟨x, hx⟩ : ∃ x, pos rs m = x := ⟨_, rfl⟩
  rw [hx] at hpt
  simp only [hx] at cP ⊢
  clear hR hl hv hs hx hrl
  go_enter Tryz.func126, Tryz.ntmps126
  go_upto_region 1 with fail
  go_cut [6, 7] (fun x6 x7 wx => ∃ X Y, x6 = .pointer (some ⟨X, 0, none⟩) ∧ x7 = .pointer (some ⟨Y, 0, none⟩) ∧ X ≠ Y ∧ w.heap.size < X ∧ w.heap.size < Y ∧ wx.heap[X]? = some (.cells #[.slice p l c, .string t, .int .i64 N] 188 (0, 0)) ∧ wx.heap[Y]? = some (.cells #[.slice p l c, .string t, .int .i64 N] 188 (0, 0)) ∧ Below (w.heap.size + 1) (w.alloc (.cells #[.slice p l c, .string t, .int .i64 N] 188)) wx)
  case first =>
    go_region
    all_goals (try go_wp2)
    all_goals go_meet
    all_goals obtain ⟨h1, h2, hB⟩ := box3 w _ _ _ rfl
    · exact ⟨_, _, rfl, rfl, by omega, by omega, by omega, h1, h2, hB⟩
    · exact ⟨_, _, rfl, rfl, by omega, by omega, by omega, h2, h1, hB⟩
  case rest =>
    obtain ⟨X, Y, rfl, rfl, nXY, lX, lY, hX, hY, hB⟩ := hcut
    have hb0 : Below w.heap.size w wc := ((Below.refl _ w).alloc (Nat.le_refl _) _).trans (hB.mono (by omega))
    have k0 : wc.heap[w.heap.size]? = some (.cells #[.slice p l c, .string t, .int .i64 N] 188 (0, 0)) := (hB.block _ (by omega)).trans (heap_alloc_new w _)
    have zX := (Array.getElem?_eq_some_iff.1 hX).1
    have zY := (Array.getElem?_eq_some_iff.1 hY).1
    have d1 : wc.cell? ⟨w.heap.size, 1, none⟩ = some (.string t) := by rw [cell_of_heap k0]; rfl
    go_wp2_with fail
    refine (cP _).mono ?_; rintro r w2 ⟨rfl, hb2⟩
    have b2 := hb0.trans (hb2.mono hb0.size)
    have m0 := heap_below hb2 k0
    have mX := heap_below hb2 hX
    have mY := heap_below hb2 hY
    clear d1 k0 hX hY hb0
    have d0 : w2.cell? ⟨w.heap.size, 0, none⟩ = some (.slice p l c) := by rw [cell_of_heap m0]; rfl
    go_wp2_with fail
    refine (cA _ b2).mono ?_; rintro r w3 ⟨v', rfl, own3, hb3⟩
    obtain ⟨p', c', rfl⟩ := own_slice own3
    have b3 := b2.trans (hb3.mono b2.size)
    have q0 := heap_below hb3 m0
    have qX := heap_below hb3 mX
    have qY := heap_below hb3 mY
    have d1 : w3.cell? ⟨w.heap.size, 1, none⟩ = some (.string t) := by rw [cell_of_heap q0]; rfl
    have x0 : w3.cell? ⟨X, 0, none⟩ = some (.slice p l c) := by rw [cell_of_heap qX]; rfl
    have x1 : w3.cell? ⟨X, 1, none⟩ = some (.string t) := by rw [cell_of_heap qX]; rfl
    have x2 : w3.cell? ⟨X, 2, none⟩ = some (.int .i64 N) := by rw [cell_of_heap qX]; rfl
    have y0 : w3.cell? ⟨Y, 0, none⟩ = some (.slice p l c) := by rw [cell_of_heap qY]; rfl
    have y1 : w3.cell? ⟨Y, 1, none⟩ = some (.string t) := by rw [cell_of_heap qY]; rfl
    have y2 : w3.cell? ⟨Y, 2, none⟩ = some (.int .i64 N) := by rw [cell_of_heap qY]; rfl
    have g0 : w3.frozen? ⟨X, 0, none⟩ = false := frozen_of_heap qX 0
    have g1 : w3.frozen? ⟨X, 1, none⟩ = false := frozen_of_heap qX 1
    have g2 : w3.frozen? ⟨X, 2, none⟩ = false := frozen_of_heap qX 2
    have k1 : w3.frozen? ⟨Y, 1, none⟩ = false := frozen_of_heap qY 1
    have k2 : w3.frozen? ⟨Y, 2, none⟩ = false := frozen_of_heap qY 2
    have n1 : ¬ X = w.heap.size := by omega
    have n2 : ¬ w.heap.size = X := by omega
    have n3 : ¬ Y = w.heap.size := by omega
    have n4 : ¬ w.heap.size = Y := by omega
    have n5 : ¬ X = Y := nXY
    have n6 : ¬ Y = X := Ne.symm nXY
    have z1 : w.heap.size ≤ X := by omega
    have z2 : w.heap.size ≤ Y := by omega
    have z3 : w.heap.size ≤ w2.heap.size := b2.size
    have hxt : (x : Int) ≤ t.size := by omega
    have hs3 : Hid (OwnA w3 w.heap.size (.slice p' A.length c') A ∧ (∀ k, (Value.slice p' A.length c').ownBlock = some k → k ≠ X ∧ k ≠ Y)) := ⟨own_weaken own3 z3, fun k hk => by have h1 := (owns_block own3 k hk).1; have := (Array.getElem?_eq_some_iff.1 mX).1; have := (Array.getElem?_eq_some_iff.1 mY).1; omega⟩
    have HB3 : Hid (Below w.heap.size w w3) := b3
    clear q0 qX qY m0 mX mY own3 hb3 b3 b2 hb2 d0 lX lY nXY hB zX zY cP cA
    go_wp2
    go_region
    go_wp2
    go_region
    go_wp2
    go_ret2
    refine ⟨p', c', rfl, ?_, ?_⟩
    · exact owns_same hs3.out.1 (fun k hk => by
        obtain ⟨e1, e2⟩ := hs3.out.2 k hk
        repeat (with_reducible first | (refine (heap_drw7 _ _).trans ?_) | (refine (Below.heap_setCell _ _ _ _ e1).trans ?_) | (refine (Below.heap_setCell _ _ _ _ e2).trans ?_) | rfl))
    · repeat (with_reducible first | exact HB3.out | (refine Below.drew ?_) | (refine Below.setCell ?_ (p := ⟨X, _, none⟩) z1 _) | (refine Below.setCell ?_ (p := ⟨Y, _, none⟩) z2 _))
end Go.Proofs.YthfpmhnnjjikcaaGreatDoor

/- vellumlaw08: fixed answers true. -/
namespace Go.Proofs.YthfpmhnnjjikcaaGreatDoor
open Go Go.RowKit Go.Lib
set_option linter.unusedVariables false
/-- The errors that the laws ask for. -/
def IR8 : List Nat := 11 :: IxO
theorem ir8 {I : List Nat} (h : ∀ i ∈ IR8, i ∈ I) : (∀ i ∈ IxO, i ∈ I) ∧ 11 ∈ I := ⟨fun i hi => h i (List.mem_cons_of_mem _ hi), h 11 (List.mem_cons_self ..)⟩
end Go.Proofs.YthfpmhnnjjikcaaGreatDoor

/- The document's answer: cells of inserts, List. -/
namespace Go.Proofs.YthfpmhnnjjikcaaGreatDoor
open Go Go.RowKit Go.Lib
set_option linter.unusedVariables false
theorem cellsL_snoc (E : List Op5) (o : Op5) : cellsL (E ++ [o]) = cellsL E ++ cellsOf o := by unfold cellsL; rw [List.flatMap_append]; simp
theorem cellsL_take {E : List Op5} {k : Nat} {o : Op5} (h : E[k]? = some o) : cellsL (E.take (k + 1)) = cellsL (E.take k) ++ cellsOf o := by
  rw [List.take_add_one, h, Option.toList_some, cellsL_snoc]
theorem cellsL_len_take (E : List Op5) (k : Nat) : (cellsL (E.take k)).length ≤ (cellsL E).length := by
  have : cellsL E = cellsL (E.take k) ++ cellsL (E.drop k) := by unfold cellsL; rw [← List.flatMap_append, List.take_append_drop]
  rw [this, List.length_append]; omega
set_option maxHeartbeats 8000000 in
set_option maxRecDepth 100000 in
theorem refCells9_any (v : Value) (E : List Op5) (w : World) (hv : ReO w v E) (hI : ∀ o ∈ E, Ins o) (ht : ∀ o ∈ E, o.t.size ≤ 8388608) (hl : E.length ≤ 4194304) (hc : (cellsL E).length ≤ 16777216) :
    Calls Tryz.prog 86 #[v] w fun r w' => ∃ v', r = .returned v' ∧ (∃ D, OwnC w' w.heap.size v' D ∧ Are w D (cellsL E)) ∧ Below w.heap.size w w' := by
  obtain ⟨DO, ⟨p, cap, rfl, hcap, hnz, hat⟩, hre⟩ := hv
  have hDE := forall2_len hre
  obtain ⟨m, hm⟩ : ∃ m, DO.length = m := ⟨_, rfl⟩
  rw [hm] at hcap ⊢
  have hlm : m ≤ 4194304 := by rw [← hm, hDE]; exact hl
  have HM : Hid (DO.length = m ∧ E.length = m) := ⟨hm, by rw [← hDE, hm]⟩
  have HA : Hid (∀ (j : Nat) (d : OV), DO[j]? = some d → ∃ b off, p = some ⟨b, off, none⟩ ∧ OpAt w b (off + j * 7) d) := hat
  have HE : Hid (ReD w DO E ∧ (∀ o ∈ E, Ins o) ∧ (∀ o ∈ E, o.t.size ≤ 8388608) ∧ (cellsL E).length ≤ 16777216) := ⟨hre, hI, ht, hc⟩
  clear hm hDE hl hat hre hI ht hc hnz
  have o0 := own_emptyC w w.heap.size (Nat.le_refl _)
  have b0 := (Below.refl w.heap.size w).alloc (Nat.le_refl _) (.cells #[] 84)
  obtain ⟨W0, hW0⟩ : ∃ W, W = w.alloc (.cells #[] 84) := ⟨_, rfl⟩
  obtain ⟨v0, hv0⟩ : ∃ v0 : Value, v0 = .slice (some ⟨w.heap.size, 0, none⟩) 0 0 := ⟨_, rfl⟩
  rw [← hW0, ← hv0] at o0
  rw [← hW0] at b0
  go_enter Tryz.func86, Tryz.ntmps86
  go_wp2
  rw [← hW0, ← hv0]
  clear hW0 hv0
  go_loopw [3, 11] (fun o i wr => ∃ (k : Nat) (D : List CV), k ≤ m ∧ i = .int .i64 k ∧ OwnC wr w.heap.size o D ∧ Hid (Are w D (cellsL (E.take k))) ∧ Below w.heap.size w wr) (fun _ i _ => m - (RowKit.intOf i).toNat)
  case atStart => exact ⟨0, [], Nat.zero_le _, rfl, o0, by rw [List.take_zero]; exact .nil, b0⟩
  case round =>
    clear o0 b0
    obtain ⟨k, D, hk, rfl, hown, HD, hbw⟩ := hrel
    by_cases hlt : k < m
    · have hltI : (k : Int) < m := by omega
      obtain ⟨d, hd⟩ : ∃ d, DO[k]? = some d := ⟨_, List.getElem?_eq_getElem (by rw [HM.out.1]; exact hlt)⟩
      obtain ⟨e, he, hr⟩ := forall2_get HE.out.1 k d hd
      obtain ⟨b, off, rfl, hin⟩ := HA.out k d hd
      have hx := hin.below hbw
      have c0 := hx.c0
      have c1 := hx.c1
      have c2 := hx.c2
      have c3 := hx.c3
      have c4 := hx.c4
      have c5 := hx.c5
      have c6 := hx.c6
      have hem := List.mem_of_getElem? he
      have hO := HE.out.2.1 e hem
      have hts := HE.out.2.2.1 e hem
      have hDl := forall2_len HD.out
      have hcl := cellsL_len_take E (k + 1)
      rw [cellsL_take he, List.length_append] at hcl
      have HT : Hid (cellsL (E.take (k + 1)) = cellsL (E.take k) ++ cellsOf e ∧ D.length + (cellsOf e).length ≤ 16777216) := ⟨cellsL_take he, by have := HE.out.2.2.2; omega⟩
      obtain ⟨h1, h2, h3, h4, h5⟩ := hr
      obtain ⟨dk, dt, ⟨dx, dn, du⟩, dc, sp, sl, sc⟩ := d
      simp only [slV] at c0 c1 c2 c3 c4 c5 c6 h1 h2 h3 h4 h5
      have HR := Hid.mk' h5
      have HB : Hid (Below w.heap.size w wr) := hbw
      obtain ⟨W1, hW1⟩ : ∃ W, W = wr.alloc (.cells #[.int .i64 dk, .string dt, .int .i64 dx, .int .i64 dn, .string du, .int .i64 dc, .slice sp sl sc] 33) := ⟨_, rfl⟩
      have bA : Below wr.heap.size wr W1 := by rw [hW1]; exact (Below.refl _ _).alloc (Nat.le_refl _) _
      have b1 : Below w.heap.size w W1 := hbw.trans (bA.mono hbw.size)
      have hs1 : W1.heap.size = wr.heap.size + 1 := by rw [hW1]; simp
      have hn1 : W1.heap[wr.heap.size]? = some (.cells #[.int .i64 dk, .string dt, .int .i64 dx, .int .i64 dn, .string du, .int .i64 dc, .slice sp sl sc] 33 (0, 0)) := by rw [hW1]; exact heap_alloc_new wr _
      have d0 : W1.cell? ⟨wr.heap.size, 0, none⟩ = some (.int .i64 dk) := by rw [cell_of_heap hn1]; rfl
      have d1 : W1.cell? ⟨wr.heap.size, 1, none⟩ = some (.string dt) := by rw [cell_of_heap hn1]; rfl
      have d2 : W1.cell? ⟨wr.heap.size, 2, none⟩ = some (.int .i64 dx) := by rw [cell_of_heap hn1]; rfl
      have d3 : W1.cell? ⟨wr.heap.size, 3, none⟩ = some (.int .i64 dn) := by rw [cell_of_heap hn1]; rfl
      have d4 : W1.cell? ⟨wr.heap.size, 4, none⟩ = some (.string du) := by rw [cell_of_heap hn1]; rfl
      have d6 : W1.cell? ⟨wr.heap.size, 6, none⟩ = some (.slice sp sl sc) := by rw [cell_of_heap hn1]; rfl
      have HO1 : Hid (OwnC W1 w.heap.size u3 D ∧ w.heap.size ≤ wr.heap.size) := ⟨owns_below hown bA, hbw.size⟩
      clear hown hx hin hd he hem hDl hcl h5
      subst h1; subst h2; subst h4
      rcases hO.kind with ⟨k1, hz⟩ | ⟨k2, -⟩
      · have HC : Hid (cellsOf e = mkC e.A (scs e.t.data.toList)) := by show _ = _; unfold cellsOf; rw [if_pos k1]
        obtain ⟨g1, g2, g3⟩ := valid_text e.t hO.utf
        obtain ⟨t, hte⟩ : ∃ t, e.t = t := ⟨_, rfl⟩
        rw [hte] at g1 g2 g3 hts HC c1 d1
        rw [k1] at c0 d0
        obtain ⟨rs, hrs⟩ : ∃ rs, scs t.data.toList = rs := ⟨_, rfl⟩
        rw [hrs] at g1 g2 g3 HC
        obtain ⟨n, hnn⟩ : ∃ n, rs.length = n := ⟨_, rfl⟩
        rw [hnn] at g3
        have HV : Hid (t.data.toList = encs rs) := g2
        have HN : Hid (rs.length = n ∧ D.length + n ≤ 16777216) := ⟨hnn, by have := HT.out.2; rw [HC.out, mkC_len, hnn] at this; exact this⟩
        rw [k1, hte] at hW1 hn1
        clear g2 hnn hrs hO hz h3 d2 d3 d4 hte k1
        go_upto_region 5 with fail
        rw [← hW1]
        clear hW1 c0 c1 c2 c3 c4 c5 c6
        go_wp2_with fail
        have bi : Below W1.heap.size W1 (W1.iter t 0) := (Below.refl _ _).alloc (Nat.le_refl _) _
        have hst : OwnC (W1.iter t 0) w.heap.size u3 D := owns_below HO1.out.1 bi
        have hit0 : (W1.iter t 0).heap[W1.heap.size]? = some (.stringIter t 0) := World.iter_heap W1 t 0
        have hbi : Below w.heap.size w (W1.iter t 0) := b1.trans (bi.mono b1.size)
        have ei : (W1.iter t 0).heap[wr.heap.size]? = some (.cells #[.int .i64 1, .string t, .int .i64 dx, .int .i64 dn, .string du, .int .i64 e.c, .slice sp sl sc] 33 (0, 0)) := heap_below bi hn1
        obtain ⟨ob, hob⟩ : ∃ ob : Array Value, ob = #[.int .i64 1, .string t, .int .i64 dx, .int .i64 dn, .string du, .int .i64 e.c, .slice sp sl sc] := ⟨_, rfl⟩
        rw [← hob] at ei
        have hob6 : ob[6]? = some (.slice sp sl sc) := by rw [hob]; rfl
        have HOB : Hid (ob[6]? = some (.slice sp sl sc)) := hob6
        rw [hs1] at hit0
        obtain ⟨K, hKK⟩ : ∃ K, K = wr.heap.size + 1 := ⟨_, rfl⟩
        have hK : w.heap.size + 1 ≤ K ∧ wr.heap.size < K := by have := HO1.out.2; omega
        rw [← hKK] at hit0 ⊢
        obtain ⟨wi, hwi⟩ : ∃ wi, wi = W1.iter t 0 := ⟨_, rfl⟩
        rw [← hwi] at hst hit0 hbi ei ⊢
        obtain ⟨Bx, hBx⟩ : ∃ B, B = wr.heap.size := ⟨_, rfl⟩
        rw [← hBx] at hK ei ⊢
        have hBw : w.heap.size ≤ Bx := by rw [hBx]; exact HO1.out.2
        clear hwi bi hKK HO1 d0 d1 d6 b1 hs1 bA hBx hbw hob hob6 hn1
        go_loopw [3] (fun v wr => ∃ (i : Nat) (D' : List CV), i ≤ n ∧ D'.length = i ∧ OwnC wr w.heap.size v (D ++ D') ∧ Hid (Are w D' (mkC e.A (rs.take i))) ∧ wr.heap[K]? = some (.stringIter t (pos rs i)) ∧ Below w.heap.size w wr ∧ wr.heap[Bx]? = some (.cells ob 33 (0, 0))) (fun _ wr => t.size - wr.iterPos K)
        case atStart => exact ⟨0, [], Nat.zero_le _, rfl, by rw [List.append_nil]; exact hst, .nil, hit0, hbi, ei⟩
        case round =>
          clear hst hit0 hbi ei
          obtain ⟨i, D', hin, hDl, hown, HA', hit, hbw', ew⟩ := hrel
          by_cases hlt2 : i < n
          · obtain ⟨hd, hp⟩ := decode_pos t rs HV.out g1 i (by rw [HN.out.1]; exact hlt2)
            have hps := pos_succ rs i (by rw [HN.out.1]; exact hlt2)
            have hpl := enc_pos (g1 _ (List.getElem_mem (show i < rs.length by rw [HN.out.1]; exact hlt2)))
            have HTT : Hid (mkC e.A (rs.take (i + 1)) = mkC e.A (rs.take i) ++ [(((rs[i]'(by rw [HN.out.1]; exact hlt2) : Nat) : Int), ⟨#[]⟩, z0, e.A)]) := by
              show _ = _
              rw [List.take_succ_eq_append_getElem (by rw [HN.out.1]; exact hlt2)]
              simp only [mkC, List.map_append, List.map_cons, List.map_nil]
            obtain ⟨R, hR⟩ : ∃ R, rs[i]'(by rw [HN.out.1]; exact hlt2) = R := ⟨_, rfl⟩
            rw [hR] at hd hps hpl HTT
            have hpq : pos rs i < pos rs (i + 1) := by omega
            have hnx : ∀ ty, (Instr.next (.pointer (some ⟨K, 0, none⟩)) true ty).run Tryz.prog wr = .ok (.tuple #[.bool true, .int .i64 (pos rs i), .int .i32 R]) (wr.iterAt K t (pos rs (i + 1))) := fun ty => by
              have := run_next_any_at (P := Tryz.prog) wr K t (pos rs i) ty hit hp
              rw [hd] at this
              rw [this, hps]
            obtain ⟨P, hP⟩ : ∃ P, pos rs i = P := ⟨_, rfl⟩
            obtain ⟨P2, hP2⟩ : ∃ P, pos rs (i + 1) = P := ⟨_, rfl⟩
            have HQ : Hid (pos rs (i + 1) = P2) := hP2
            rw [hP] at hnx hp hpq hit
            rw [hP2] at hnx hpq
            have hown2 := ownsC_iterAt hown hit P2
            have hit2 := iterAt_heap wr K t P P2 hit
            have hbw2 := below_iterAt hbw' (show w.heap.size ≤ K by omega) t P2
            have hsz2 : K < (wr.iterAt K t P2).heap.size := (Array.getElem?_eq_some_iff.1 hit2).1
            have ew2 : (wr.iterAt K t P2).heap[Bx]? = some (.cells ob 33 (0, 0)) := by
              have hne : Bx ≠ K := by omega
              simpa [World.iterAt, Ne.symm hne] using ew
            have hsw : w.heap.size ≤ (wr.iterAt K t P2).heap.size := by omega
            obtain ⟨W, hW⟩ : ∃ W, W = wr.iterAt K t P2 := ⟨_, rfl⟩
            rw [← hW] at hown2 hit2 hbw2 hsz2 hnx ew2 hsw
            have hnK : Hid (∀ k, u3.ownBlock = some k → k ≠ K ∧ k ≠ Bx) := fun k hk => by
              obtain ⟨_, cur, hcur⟩ := owns_block hown2 k hk
              refine ⟨fun e => ?_, fun e => ?_⟩
              · rw [e, hit2] at hcur; cases hcur
              · rw [e, ew2] at hcur
                simp only [Option.some.injEq, Obj.cells.injEq] at hcur
                exact absurd hcur.2.1 (by decide)
            have hge : Hid (∀ k, u3.ownBlock = some k → w.heap.size ≤ k) := fun k hk => (owns_block hown2 k hk).1
            have hpos : wr.iterPos K = P := by simp [World.iterPos, hit]
            have ba : Below W.heap.size W (W.alloc (.cells (ceC ((R : Int), ⟨#[]⟩, z0, sp, sl, sc)) 84)) := (Below.refl _ _).alloc (Nat.le_refl _) _
            have b6 := hbw2.trans (ba.mono hbw2.size)
            have HR6 : Hid (RowC (W.alloc (.cells (ceC ((R : Int), ⟨#[]⟩, z0, sp, sl, sc)) 84)) (.slice (some ⟨W.heap.size, 0, none⟩) 1 1) [((R : Int), ⟨#[]⟩, z0, sp, sl, sc)]) := one_rowC W _
            have HO6 : Hid (OwnC (W.alloc (.cells (ceC ((R : Int), ⟨#[]⟩, z0, sp, sl, sc)) 84)) w.heap.size u3 (D ++ D')) := owns_below hown2 ba
            have HE6 : Hid (Are w (D' ++ [((R : Int), ⟨#[]⟩, z0, sp, sl, sc)]) (mkC e.A (rs.take (i + 1)))) := by
              show Are _ _ _
              rw [HTT.out]
              exact forall2_append HA'.out (.cons ⟨rfl, rfl, rfl, HR.out⟩ .nil)
            have hK6 : (W.alloc (.cells (ceC ((R : Int), ⟨#[]⟩, z0, sp, sl, sc)) 84)).heap[K]? = some (.stringIter t P2) := by
              rw [Below.heap_alloc _ _ _ (by omega)]; exact hit2
            have ew6h : (W.alloc (.cells (ceC ((R : Int), ⟨#[]⟩, z0, sp, sl, sc)) 84)).heap[Bx]? = some (.cells ob 33 (0, 0)) := by
              rw [Below.heap_alloc _ _ _ (by omega)]; exact ew2
            have ew : W.cell? ⟨Bx, 6, none⟩ = some (.slice sp sl sc) := by rw [cell_of_heap ew2]; exact HOB.out
            have ew6 : (W.alloc (.cells (ceC ((R : Int), ⟨#[]⟩, z0, sp, sl, sc)) 84)).cell? ⟨Bx, 6, none⟩ = some (.slice sp sl sc) := by rw [cell_of_heap ew6h]; exact HOB.out
            have HW6 : Hid ((W.alloc (.cells (ceC ((R : Int), ⟨#[]⟩, z0, sp, sl, sc)) 84)).heap[Bx]? = some (.cells ob 33 (0, 0))) := ew6h
            have hlen6 : (D ++ D').length + ([((R : Int), ⟨#[]⟩, z0, sp, sl, sc)] : List CV).length ≤ 33554432 := by have := HN.out.2; rw [List.length_append]; simp; omega
            have hsz6 : w.heap.size ≤ (W.alloc (.cells (ceC ((R : Int), ⟨#[]⟩, z0, sp, sl, sc)) 84)).heap.size := by simp; omega
            have hlt6 : Bx < (W.alloc (.cells (ceC ((R : Int), ⟨#[]⟩, z0, sp, sl, sc)) 84)).heap.size ∧ K < (W.alloc (.cells (ceC ((R : Int), ⟨#[]⟩, z0, sp, sl, sc)) 84)).heap.size := by rw [World.size_alloc]; omega
            clear hown hd hps hpl hR hP hP2 hit hbw' g1 hown2 ba HA' HTT hW ew2 ew6h
            go_wp2_with (at_builtin; refine wpList_append_cells rfl (.tmp 34) (.tmp 39) rfl w.heap.size u3 (D ++ D') rfl HO6.out _ _ rfl HR6.out hlen6 hsz6 ?_; intro v' w7 own7 gr7)
            have hK7 : w7.heap[K]? = some (.stringIter t P2) := by
              rw [gr7.block K hlt6.2 (fun e => (hnK.out K e.symm).1 rfl)]; exact hK6
            have ew7 : w7.heap[Bx]? = some (.cells ob 33 (0, 0)) := by
              rw [gr7.block Bx hlt6.1 (fun e => (hnK.out Bx e.symm).2 rfl)]; exact HW6.out
            have b7 : Below w.heap.size w w7 := b6.grown gr7 b6.size (fun k hk => hge.out k hk)
            rw [List.append_assoc] at own7
            go_roundw
            case rel => exact ⟨i + 1, _, by omega, by simp [hDl], own7, HE6, by rw [HQ.out]; exact hK7, b7, ew7⟩
            case measure =>
              have : w7.iterPos K = P2 := by simp [World.iterPos, hK7]
              rw [this]
              omega
          · have he : i = n := by omega
            have hpe : ¬ pos rs i < t.size := by
              rw [he, ← HN.out.1, pos_all, ← HV.out, size_toList]; omega
            have hnx : ∀ ty, (Instr.next (.pointer (some ⟨K, 0, none⟩)) true ty).run Tryz.prog wr = _ := fun ty => run_next_end_at wr K t _ ty hit hpe
            have hall : rs.take i = rs := List.take_of_length_le (by rw [HN.out.1]; omega)
            rw [hall] at HA'
            have HO : Hid (OwnC wr w.heap.size u3 (D ++ D')) := hown
            clear hown hpe hit g1 ew
            go_wp2
            go_roundw
            case rel => exact ⟨k + 1, D ++ D', by omega, by go_num, HO.out, by show Are _ _ _; rw [HT.out.1, HC.out]; exact forall2_append HD.out HA'.out, hbw'⟩
            case measure => simp [RowKit.intOf]; omega
      · have HC : Hid (cellsOf e = [(-1, e.t, e.v, e.A)]) := by show _ = _; unfold cellsOf; rw [if_neg (by omega)]
        rw [k2] at c0 d0 hW1
        have ba : Below W1.heap.size W1 (W1.alloc (.cells (ceC (-1, e.t, (dx, dn, du), sp, sl, sc)) 84)) := (Below.refl _ _).alloc (Nat.le_refl _) _
        have b6 := b1.trans (ba.mono b1.size)
        have HR6 : Hid (RowC (W1.alloc (.cells (ceC (-1, e.t, (dx, dn, du), sp, sl, sc)) 84)) (.slice (some ⟨wr.heap.size + 1, 0, none⟩) 1 1) [(-1, e.t, (dx, dn, du), sp, sl, sc)]) := by rw [← hs1]; exact one_rowC W1 _
        have HO6 : Hid (OwnC (W1.alloc (.cells (ceC (-1, e.t, (dx, dn, du), sp, sl, sc)) 84)) w.heap.size u3 D) := owns_below HO1.out.1 ba
        have HE6 : Hid (Are w (D ++ [(-1, e.t, (dx, dn, du), sp, sl, sc)]) (cellsL (E.take (k + 1)))) := by
          show Are _ _ _
          rw [HT.out.1, HC.out]
          exact forall2_append HD.out (.cons ⟨rfl, rfl, h3, HR.out⟩ .nil)
        have hge : Hid (∀ k, u3.ownBlock = some k → w.heap.size ≤ k) := fun k hk => (owns_block HO1.out.1 k hk).1
        have hlen6 : D.length + ([(-1, e.t, (dx, dn, du), sp, sl, sc)] : List CV).length ≤ 33554432 := by have := HT.out.2; simp; omega
        have hsz6 : w.heap.size ≤ (W1.alloc (.cells (ceC (-1, e.t, (dx, dn, du), sp, sl, sc)) 84)).heap.size := by simp; have := b1.size; omega
        clear hO h3 HO1 HT HC hn1 k2 ba b1
        go_upto_region 5 with fail
        rw [← hW1]
        clear hW1 c0 c1 c2 c3 c4 c5 c6
        simp only [ceC] at HR6 HO6 hsz6 b6
        go_wp2_with (at_builtin; refine wpList_append_cells rfl (.tmp 18) (.tmp 26) rfl w.heap.size u3 D rfl HO6.out _ _ rfl HR6.out hlen6 hsz6 ?_; intro v' w7 own7 gr7)
        have b7 : Below w.heap.size w w7 := b6.grown gr7 b6.size (fun k hk => hge.out k hk)
        go_roundw
        case rel => exact ⟨k + 1, _, by omega, by go_num, own7, HE6, b7⟩
        case measure => simp [RowKit.intOf]; omega
    · have hltI : ¬ (k : Int) < m := by omega
      have hall : E.take k = E := List.take_of_length_le (by rw [HM.out.2]; omega)
      rw [hall] at HD
      have HO : Hid (OwnC wr w.heap.size u3 D) := hown
      clear hown hall
      go_wp2
      go_ret
      exact ⟨_, rfl, ⟨D, HO.out, HD.out⟩, hbw⟩
end Go.Proofs.YthfpmhnnjjikcaaGreatDoor

/- The document's answer: Document and List of any operations. -/
namespace Go.Proofs.YthfpmhnnjjikcaaGreatDoor
open Go Go.RowKit Go.Lib
set_option linter.unusedVariables false
/-- Inserts alone? -/
def docB (E : List Op5) : Bool := E.all fun o => decide (o.k = 1 ∨ o.k = 2)
theorem docB_iff {E : List Op5} : docB E = true ↔ DocL E := by
  unfold docB DocL
  rw [List.all_eq_true]
  exact forall₂_congr fun o _ => decide_eq_true_iff
theorem docB_take {E : List Op5} {k : Nat} {e : Op5} (h : docB (E.take k) = true) (he : E[k]? = some e) : docB (E.take (k + 1)) = decide (e.k = 1 ∨ e.k = 2) := by
  unfold docB at *
  rw [List.take_add_one, he, List.all_append, h]
  simp
theorem docB_no {E : List Op5} {k : Nat} {e : Op5} (he : E[k]? = some e) (hk : ¬ (e.k = 1 ∨ e.k = 2)) : docB E = false := by
  cases h : docB E with
  | false => rfl
  | true => exact absurd (docB_iff.1 h e (List.mem_of_getElem? he)) hk
theorem docB_sum {E : List Op5} (hw : ∀ o ∈ E, Wel o) : (docB E = true) = (sumB E = 0) := by
  apply propext
  rw [docB_iff]
  constructor
  · intro hd
    have : ∀ F : List Op5, DocL F → sumB F = 0 := fun F hF => by
      induction F with
      | nil => rfl
      | cons x r ih => rw [sumB_cons, base_1 (hF x (List.mem_cons_self ..)), ih fun o ho => hF o (List.mem_cons_of_mem _ ho)]; rfl
    exact this E hd
  · intro h0 o ho
    have h1 := (mem_sums hw ho).1
    have hx := hw o ho
    rcases hx.kinds with h | h | h | h
    · exact .inl h
    · exact .inr h
    · have := hx.count (.inl h); rw [base_3 (.inl h)] at h1; omega
    · have := hx.count (.inr h); rw [base_3 (.inr h)] at h1; omega
set_option maxHeartbeats 4000000 in
set_option maxRecDepth 100000 in
theorem refDoc6_any (v : Value) (E : List Op5) (w : World) (hv : ReO w v E) (hl : E.length ≤ 4194304) :
    Calls Tryz.prog 85 #[v] w fun r w' => r = .returned (.bool (docB E)) ∧ Below w.heap.size w w' := by
  obtain ⟨DO, ⟨p, cap, rfl, hcap, hnz, hat⟩, hre⟩ := hv
  have hDE := forall2_len hre
  obtain ⟨m, hm⟩ : ∃ m, DO.length = m := ⟨_, rfl⟩
  rw [hm] at hcap ⊢
  have hlm : m ≤ 4194304 := by rw [← hm, hDE]; exact hl
  have HM : Hid (DO.length = m ∧ E.length = m) := ⟨hm, by rw [← hDE, hm]⟩
  have HA : Hid (∀ (j : Nat) (d : OV), DO[j]? = some d → ∃ b off, p = some ⟨b, off, none⟩ ∧ OpAt w b (off + j * 7) d) := hat
  have HE : Hid (ReD w DO E) := hre
  clear hm hDE hl hat hre hnz
  go_enter Tryz.func85, Tryz.ntmps85
  go_wp2
  go_loopw [7] (fun i wr => ∃ (k : Nat), k ≤ m ∧ i = .int .i64 k ∧ Hid (docB (E.take k) = true) ∧ Below w.heap.size w wr) (fun i _ => m - (RowKit.intOf i).toNat)
  case atStart => exact ⟨0, Nat.zero_le _, rfl, by show docB (E.take 0) = true; rfl, Below.refl _ _⟩
  case round =>
    obtain ⟨k, hk, rfl, HD, hbw⟩ := hrel
    by_cases hlt : k < m
    · have hltI : (k : Int) < m := by omega
      obtain ⟨d, hd⟩ : ∃ d, DO[k]? = some d := ⟨_, List.getElem?_eq_getElem (by rw [HM.out.1]; exact hlt)⟩
      obtain ⟨e, he, hr⟩ := forall2_get HE.out k d hd
      obtain ⟨b, off, rfl, hin⟩ := HA.out k d hd
      obtain ⟨c0, c1, c2, c3, c4, c5, c6⟩ := hin.below hbw
      obtain ⟨h1, h2, h3, h4, -⟩ := hr
      have bA := hbw.alloc hbw.size (.cells (opC e (slV d.2.2.2.2)) 33)
      have HT : Hid (docB (E.take (k + 1)) = decide (e.k = 1 ∨ e.k = 2) ∧ (¬ (e.k = 1 ∨ e.k = 2) → docB E = false)) := ⟨docB_take HD.out he, docB_no he⟩
      obtain ⟨dk, dt, ⟨dx, dn, du⟩, dc, sp, sl, sc⟩ := d
      simp only [slV] at c0 c1 c2 c3 c4 c5 c6 h1 h2 h3 h4 bA
      have cI := ins6_any e sp sl sc (wr.alloc (.cells (opC e (.slice sp sl sc)) 33))
      obtain ⟨ek, et, ⟨ex, en, eu⟩, ec, eA⟩ := e
      simp only [Prod.mk.injEq] at h1 h2 h3 h4
      obtain ⟨h3, h5, h6⟩ := h3
      subst h1; subst h2; subst h3; subst h4; subst h5; subst h6
      simp only [opC] at cI bA
      have hsz := hbw.size
      by_cases hq : dk = 1 ∨ dk = 2
      · rw [decide_eq_true hq] at cI
        have HT2 : Hid (docB (E.take (k + 1)) = true) := by have := HT.out.1; rwa [decide_eq_true hq] at this
        clear hin hd he HD HT hbw hq
        go_wp2_with fail
        refine cI.mono ?_; rintro r w5 ⟨rfl, b5⟩
        have b9 := bA.trans (b5.mono bA.size)
        clear cI b5 bA
        go_wp2
        go_roundw
        case rel => exact ⟨k + 1, by omega, by go_num, HT2.out, b9⟩
        case measure => simp [RowKit.intOf]; omega
      · rw [decide_eq_false hq] at cI
        have HF : Hid (docB E = false) := HT.out.2 hq
        clear hin hd he HD HT hbw hq
        go_wp2_with fail
        refine cI.mono ?_; rintro r w5 ⟨rfl, b5⟩
        have b9 := bA.trans (b5.mono bA.size)
        clear cI b5 bA
        go_wp2
        go_ret
        exact ⟨by rw [HF.out]; simp, b9⟩
    · have hltI : ¬ (k : Int) < m := by omega
      have hall : E.take k = E := List.take_of_length_le (by rw [HM.out.2]; omega)
      rw [hall] at HD
      go_wp2
      go_ret
      exact ⟨by rw [HD.out]; simp, hbw⟩
/-- What List answers. -/
def LisR (w w' : World) (E : List Op5) (lv : Value) (n : Int) : Prop := (docB E = true → n = 0 ∧ ∃ D, OwnC w' w.heap.size lv D ∧ Are w' D (cellsL E)) ∧ (docB E = false → n = 9 ∧ lv = .slice none 0 0)
theorem refList9_any (v : Value) (E : List Op5) (w : World) (hv : ReO w v E) (hI : docB E = true → ∀ o ∈ E, Ins o) (ht : ∀ o ∈ E, o.t.size ≤ 8388608) (hl : E.length ≤ 4194304) (hc : (cellsL E).length ≤ 16777216) :
    Calls Tryz.prog 35 #[v] w fun r w' => ∃ lv n, r = .returned (.tuple #[lv, .int .i64 n]) ∧ LisR w w' E lv n ∧ Below w.heap.size w w' := by
  have c1 := refDoc6_any v E w hv hl
  have c2 : Hid (docB E = true → ∀ W, Below w.heap.size w W → Calls Tryz.prog 86 #[v] W fun r w' => ∃ v', r = .returned v' ∧ (∃ D, OwnC w' W.heap.size v' D ∧ Are W D (cellsL E)) ∧ Below W.heap.size W w') := fun h W b => refCells9_any v E W (hv.below b) (hI h) ht hl hc
  have hsl : ∃ p l c, v = .slice p l c := by obtain ⟨D, ⟨p, c, e, _⟩, _⟩ := hv; exact ⟨p, _, c, e⟩
  obtain ⟨p, l, c, rfl⟩ := hsl
  obtain ⟨q, hq⟩ : ∃ q, docB E = q := ⟨_, rfl⟩
  rw [hq] at c1 c2
  have HQ : Hid (docB E = q) := hq
  clear hv hI ht hl hc hq
  cases q with
  | true =>
    have c2 := c2.out rfl
    have HC := Hid.mk' c2
    clear c2
    go_enter Tryz.func35, Tryz.ntmps35
    go_wp2_with fail
    refine c1.mono ?_; rintro r w1 ⟨rfl, b1⟩
    have d2 := HC.out w1 b1
    clear c1 HC
    go_wp2_with fail
    refine d2.mono ?_; rintro r w2 ⟨v2, rfl, ⟨D, o2, a2⟩, b2⟩
    have HR : Hid (OwnC w2 w.heap.size v2 D ∧ Are w2 D (cellsL E) ∧ Below w.heap.size w w2) := ⟨own_weaken o2 b1.size, a2.below b2, b1.trans (b2.mono b1.size)⟩
    obtain ⟨pv, cv, rfl⟩ : ∃ p c, v2 = .slice p D.length c := by obtain ⟨p, c, h, _⟩ := own_rowC o2; exact ⟨p, c, h⟩
    clear d2 o2 a2 b1 b2
    go_wp2
    go_ret2
    exact ⟨_, _, rfl, ⟨fun _ => ⟨rfl, D, HR.out.1, HR.out.2.1⟩, fun h => (by rw [HQ.out] at h; cases h)⟩, HR.out.2.2⟩
  | false =>
    clear c2
    go_enter Tryz.func35, Tryz.ntmps35
    go_wp2_with fail
    refine c1.mono ?_; rintro r w1 ⟨rfl, b1⟩
    clear c1
    go_wp2
    go_ret2
    exact ⟨_, _, rfl, ⟨fun h => (by rw [HQ.out] at h; cases h), fun _ => ⟨rfl, rfl⟩⟩, b1⟩
end Go.Proofs.YthfpmhnnjjikcaaGreatDoor

/- A piece cut in two; a piece taken. -/
namespace Go.Proofs.YthfpmhnnjjikcaaGreatDoor
open Go Go.RowKit Go.Lib
set_option linter.unusedVariables false
set_option maxHeartbeats 2000000 in
set_option maxRecDepth 100000 in
theorem cut71_any {e : Op5} {m : Nat} (p : Option Addr) (l c : Nat) (w : World) (hg : opE e = 0) (hk : e.k = 1) (h1 : 1 ≤ m) (h2 : (m : Int) < len5 e) (ht : e.t.size ≤ 8388608) (hR : RN w (.slice p l c) e.A) (hl : e.A.length ≤ 2097152) :
    Calls Tryz.prog 109 #[pieceQ e (.slice p l c), .int .i64 m] w fun r w' => ∃ s1, r = .returned (.tuple #[pieceQ (hd7 e m) s1, pieceQ (tl7 e m) (.slice p l c)]) ∧ OwnA w' w.heap.size s1 e.A ∧ Below w.heap.size w w' := by
  have hi : Ins e := by
    rcases op_good hg with ⟨hi, _⟩ | ⟨_, _, h⟩ | ⟨_, _, h⟩
    · exact hi
    · omega
    · omega
  obtain ⟨hv1, hv2, hv3⟩ := valid_text e.t hi.utf
  have hlen := len5_1 hk
  rw [hlen] at h2
  have hm : m < (scs e.t.data.toList).length := by omega
  have b0 : Below w.heap.size w (w.alloc (.cells #[.slice p l c, .string e.t, .int .i64 (scs e.t.data.toList).length] 188)) := (Below.refl _ _).alloc (Nat.le_refl _) _
  have cT := cutText_any p l c e.t (scs e.t.data.toList).length e.A (scs e.t.data.toList) m _ (hR.below b0) hl hv2 hv1 (by omega) ht hv3 (by omega) (by omega)
  have q1 : ∀ s1, pieceQ (hd7 e m) s1 = .iface 188 (.agg #[s1, .string (e.t.extract 0 (pos (scs e.t.data.toList) m)), .int .i64 m]) := fun s1 => by
    have e1 : hd7 e m = headO e m := by unfold hd7; rw [if_pos hk]; rfl
    have := (ins_head hi h1 hm).2
    unfold lenO at this
    rw [if_pos (show (headO e m).k = 1 from rfl)] at this
    rw [e1, pieceQ_1 (o := headO e m) rfl, this]; rfl
  have q2 : pieceQ (tl7 e m) (.slice p l c) = .iface 188 (.agg #[.slice p l c, .string (e.t.extract (pos (scs e.t.data.toList) m) e.t.size), .int .i64 (((scs e.t.data.toList).length : Int) - m)]) := by
    have e1 : tl7 e m = tailO e m := by unfold tl7; rw [if_pos hk]; rfl
    have := (ins_tail hi hm).2
    unfold lenO at this
    rw [if_pos (show (tailO e m).k = 1 from rfl)] at this
    rw [e1, pieceQ_1 (o := tailO e m) rfl, this]
    show Value.iface _ (.agg #[_, .string (tailO e m).t, .int .i64 (((scs e.t.data.toList).length - m : Nat) : Int)]) = _
    rw [Int.ofNat_sub (by omega)]; rfl
  rw [q2, pieceQ_1 hk]
  obtain ⟨X, hX⟩ : ∃ X, e.t.extract 0 (pos (scs e.t.data.toList) m) = X := ⟨_, rfl⟩
  obtain ⟨Y, hY⟩ : ∃ X, e.t.extract (pos (scs e.t.data.toList) m) e.t.size = X := ⟨_, rfl⟩
  obtain ⟨n, hn⟩ : ∃ n : Int, ((scs e.t.data.toList).length : Int) = n := ⟨_, rfl⟩
  simp only [hX, hY, hn] at cT q1 b0 ⊢
  have HQ : Hid (∀ s1, pieceQ (hd7 e m) s1 = .iface 188 (.agg #[s1, .string X, .int .i64 m])) := q1
  have a0 := as_i_i
  clear q1 q2 hX hY hn hm h2 hlen hv1 hv2 hv3 hi hg hk ht hR hl
  go_enter Tryz.func109, Tryz.ntmps109
  go_wp2_with fail
  refine cT.mono ?_; rintro r w2 ⟨p', c', rfl, own2, hb2⟩
  have HQ2 : Hid (OwnA w2 w.heap.size (.slice p' e.A.length c') e.A ∧ Below w.heap.size w w2) := ⟨own_weaken own2 b0.size, b0.trans (hb2.mono b0.size)⟩
  clear cT own2 hb2 b0
  go_wp2
  go_ret2
  exact ⟨.slice p' e.A.length c', by rw [HQ.out]; rfl, HQ2.out⟩
set_option maxHeartbeats 2000000 in
set_option maxRecDepth 100000 in
theorem cut73_any {e : Op5} {m : Int} (p : Option Addr) (l c : Nat) (w : World) (hg : opE e = 0) (hk : e.k = 3) (h1 : 1 ≤ m) (h2 : m < e.c) (hR : RN w (.slice p l c) e.A) (hl : e.A.length ≤ 2097152) :
    Calls Tryz.prog 109 #[pieceQ e (.slice p l c), .int .i64 m] w fun r w' => ∃ s1, r = .returned (.tuple #[pieceQ (hd7 e m) s1, pieceQ (tl7 e m) (.slice p l c)]) ∧ OwnA w' w.heap.size s1 e.A ∧ Below w.heap.size w w' := by
  have hc : e.c ≤ 1099511627776 := by
    rcases op_good hg with ⟨_, h⟩ | ⟨hc, _, h⟩ | ⟨_, _, h⟩
    · omega
    · exact hc.hi
    · omega
  have e1 : hd7 e m = ⟨e.k, e.t, e.v, m, e.A⟩ := if_neg (by omega)
  have e2 : tl7 e m = ⟨e.k, e.t, e.v, e.c - m, e.A⟩ := if_neg (by omega)
  have cA := fun W (hW : Below w.heap.size w W) => attributes_any (.slice p l c) e.A W (hR.below hW).row hR.nz hl
  rw [e1, e2]
  simp only [pieceQ_3 hk, pieceQ_3 (o := ⟨e.k, e.t, e.v, m, e.A⟩) hk, pieceQ_3 (o := ⟨e.k, e.t, e.v, e.c - m, e.A⟩) hk]
  obtain ⟨N, hN⟩ : ∃ N, e.c = N := ⟨_, rfl⟩
  rw [hN] at h2 hc ⊢
  have a0 := as_r_i
  have a1 := as_r_r
  clear hR hg hk e1 e2 hN
  go_enter Tryz.func109, Tryz.ntmps109
  go_upto_region 7 with fail
  go_cut [8, 9] (fun x6 x7 wx => ∃ X Y, x6 = .pointer (some ⟨X, 0, none⟩) ∧ x7 = .pointer (some ⟨Y, 0, none⟩) ∧ X ≠ Y ∧ w.heap.size < X ∧ w.heap.size < Y ∧ wx.heap[X]? = some (.cells #[.slice p l c, .int .i64 N] 160 (0, 0)) ∧ wx.heap[Y]? = some (.cells #[.slice p l c, .int .i64 N] 160 (0, 0)) ∧ Below (w.heap.size + 1) (w.alloc (.cells #[.slice p l c, .int .i64 N] 160)) wx)
  case first =>
    go_region
    all_goals (try go_wp2)
    all_goals go_meet
    all_goals obtain ⟨h1, h2, hB⟩ := box3 w _ _ _ rfl
    · exact ⟨_, _, rfl, rfl, by omega, by omega, by omega, h1, h2, hB⟩
    · exact ⟨_, _, rfl, rfl, by omega, by omega, by omega, h2, h1, hB⟩
  case rest =>
    obtain ⟨X, Y, rfl, rfl, nXY, lX, lY, hX, hY, hB⟩ := hcut
    have hb0 : Below w.heap.size w wc := ((Below.refl _ w).alloc (Nat.le_refl _) _).trans (hB.mono (by omega))
    have k0 : wc.heap[w.heap.size]? = some (.cells #[.slice p l c, .int .i64 N] 160 (0, 0)) := (hB.block _ (by omega)).trans (heap_alloc_new w _)
    have zX := (Array.getElem?_eq_some_iff.1 hX).1
    have zY := (Array.getElem?_eq_some_iff.1 hY).1
    have d0 : wc.cell? ⟨w.heap.size, 0, none⟩ = some (.slice p l c) := by rw [cell_of_heap k0]; rfl
    go_wp2_with fail
    refine (cA _ hb0).mono ?_; rintro r w3 ⟨v', rfl, own3, hb3⟩
    obtain ⟨p', c', rfl⟩ := own_slice own3
    have b3 := hb0.trans (hb3.mono hb0.size)
    have q0 := heap_below hb3 k0
    have qX := heap_below hb3 hX
    have qY := heap_below hb3 hY
    have x0 : w3.cell? ⟨X, 0, none⟩ = some (.slice p l c) := by rw [cell_of_heap qX]; rfl
    have x1 : w3.cell? ⟨X, 1, none⟩ = some (.int .i64 N) := by rw [cell_of_heap qX]; rfl
    have y0 : w3.cell? ⟨Y, 0, none⟩ = some (.slice p l c) := by rw [cell_of_heap qY]; rfl
    have y1 : w3.cell? ⟨Y, 1, none⟩ = some (.int .i64 N) := by rw [cell_of_heap qY]; rfl
    have g0 : w3.frozen? ⟨X, 0, none⟩ = false := frozen_of_heap qX 0
    have g1 : w3.frozen? ⟨X, 1, none⟩ = false := frozen_of_heap qX 1
    have k1 : w3.frozen? ⟨Y, 1, none⟩ = false := frozen_of_heap qY 1
    have n5 : ¬ X = Y := nXY
    have n6 : ¬ Y = X := Ne.symm nXY
    have z1 : w.heap.size ≤ X := by omega
    have z2 : w.heap.size ≤ Y := by omega
    have z3 : w.heap.size ≤ wc.heap.size := hb0.size
    have hs3 : Hid (OwnA w3 w.heap.size (.slice p' e.A.length c') e.A ∧ (∀ k, (Value.slice p' e.A.length c').ownBlock = some k → k ≠ X ∧ k ≠ Y)) := ⟨own_weaken own3 z3, fun k hk => by have h1 := (owns_block own3 k hk).1; omega⟩
    have HB3 : Hid (Below w.heap.size w w3) := b3
    clear q0 qX qY hX hY own3 hb3 b3 hb0 d0 k0 lX lY nXY hB zX zY cA
    go_wp2
    go_region
    go_wp2
    go_ret2
    refine ⟨_, rfl, ?_, ?_⟩
    · exact owns_same hs3.out.1 (fun k hk => by
        obtain ⟨e1, e2⟩ := hs3.out.2 k hk
        repeat (with_reducible first | (refine (heap_drw7 _ _).trans ?_) | (refine (Below.heap_setCell _ _ _ _ e1).trans ?_) | (refine (Below.heap_setCell _ _ _ _ e2).trans ?_) | rfl))
    · repeat (with_reducible first | exact HB3.out | (refine Below.drew ?_) | (refine Below.setCell ?_ (p := ⟨X, _, none⟩) z1 _) | (refine Below.setCell ?_ (p := ⟨Y, _, none⟩) z2 _))
set_option maxHeartbeats 2000000 in
set_option maxRecDepth 100000 in
theorem cut74_any {e : Op5} {m : Int} (s : Value) (w : World) (hg : opE e = 0) (hk : e.k = 4) (h1 : 1 ≤ m) (h2 : m < e.c) :
    Calls Tryz.prog 109 #[pieceQ e s, .int .i64 m] w fun r w' => ∃ s1, r = .returned (.tuple #[pieceQ (hd7 e m) s1, pieceQ (tl7 e m) s]) ∧ OwnA w' w.heap.size s1 e.A ∧ Below w.heap.size w w' := by
  have hh : e.c ≤ 1099511627776 ∧ e.A = [] := by
    rcases op_good hg with ⟨_, h⟩ | ⟨hc, _, h⟩ | ⟨hc, hA, h⟩
    · omega
    · omega
    · exact ⟨hc.hi, hA⟩
  obtain ⟨hc, hA⟩ := hh
  have e1 : hd7 e m = ⟨e.k, e.t, e.v, m, e.A⟩ := if_neg (by omega)
  have e2 : tl7 e m = ⟨e.k, e.t, e.v, e.c - m, e.A⟩ := if_neg (by omega)
  rw [e1, e2, hA]
  simp only [pieceQ_4 hk, pieceQ_4 (o := ⟨e.k, e.t, e.v, m, []⟩) hk, pieceQ_4 (o := ⟨e.k, e.t, e.v, e.c - m, []⟩) hk]
  obtain ⟨N, hN⟩ : ∃ N, e.c = N := ⟨_, rfl⟩
  rw [hN] at h2 hc ⊢
  have a0 := as_d_i
  have a1 := as_d_r
  have a2 := as_d_d
  clear hg hk e1 e2 hN hA
  go_enter Tryz.func109, Tryz.ntmps109
  go_wp2
  go_region
  go_wp2
  go_ret2
  exact ⟨.slice none 0 0, rfl, World.ownsRow_nil _ _ _ _, ((Below.refl _ _).alloc (Nat.le_refl _) _).drew⟩
theorem cut7_any {e : Op5} {m : Int} (p : Option Addr) (l c : Nat) (w : World) (hg : opE e = 0) (h1 : 1 ≤ m) (h2 : m < len5 e) (ht : e.t.size ≤ 8388608) (hR : RN w (.slice p l c) e.A) (hl : e.A.length ≤ 2097152) :
    Calls Tryz.prog 109 #[pieceQ e (.slice p l c), .int .i64 m] w fun r w' => ∃ s1, r = .returned (.tuple #[pieceQ (hd7 e m) s1, pieceQ (tl7 e m) (.slice p l c)]) ∧ OwnA w' w.heap.size s1 e.A ∧ Below w.heap.size w w' := by
  rcases kinds_of hg with hk | hk | hk | hk
  · obtain ⟨n, rfl⟩ : ∃ n : Nat, m = n := ⟨m.toNat, by omega⟩
    exact cut71_any p l c w hg hk (by omega) h2 ht hR hl
  · rw [len5_2 hk] at h2; omega
  · exact cut73_any p l c w hg hk h1 (by rwa [len5_3 (.inl hk)] at h2) hR hl
  · exact cut74_any _ w hg hk h1 (by rwa [len5_3 (.inr hk)] at h2)
end Go.Proofs.YthfpmhnnjjikcaaGreatDoor

/- What a Walker takes. -/
namespace Go.Proofs.YthfpmhnnjjikcaaGreatDoor
open Go Go.RowKit Go.Lib
set_option linter.unusedVariables false
set_option maxHeartbeats 4000000 in
set_option maxRecDepth 100000 in
theorem takeNil_any {B q g : Nat} (n : Int) (w : World) (h : WkV w B q g []) (hn : 1 ≤ n ∧ n ≤ 9223372036854775807) :
    Calls Tryz.prog 78 #[.pointer (some ⟨q, 0, none⟩), .int .i64 n] w fun r w' => ∃ s, r = .returned (pieceQ (nx7 [] n).1 s) ∧ OwnA w' B s (nx7 [] n).1.A ∧ WkV w' B q g (nx7 [] n).2 ∧ FrW q g w w' := by
  have cD := doneW_any w h
  rw [decide_eq_true rfl] at cD
  have HW : Hid (∀ W, Below w.heap.size w W → WkV W B q g []) := fun W hW => h.below hW
  have hq : ∀ s, pieceQ (nx7 [] n).1 s = .iface 160 (.agg #[s, .int .i64 (min n 1099511627776)]) := fun s => pieceQ_3 rfl
  have HQ : Hid _ := hq
  obtain ⟨hn1, hn2⟩ := hn
  clear h hq
  by_cases hm : n ≤ 1099511627776
  · have hmin : Hid (min n 1099511627776 = n) := by show _ = _; omega
    go_enter Tryz.func78, Tryz.ntmps78
    go_wp2_with fail
    refine cD.mono ?_; rintro r w2 ⟨rfl, hb2⟩
    clear cD
    go_wp2
    go_ret
    exact ⟨.slice none 0 0, by rw [HQ.out, hmin.out]; rfl, World.ownsRow_nil _ _ _ _, HW.out _ hb2, FrW.of_below hb2⟩
  · have hmin : Hid (min n 1099511627776 = 1099511627776) := by show _ = _; omega
    go_enter Tryz.func78, Tryz.ntmps78
    go_wp2_with fail
    refine cD.mono ?_; rintro r w2 ⟨rfl, hb2⟩
    clear cD
    go_wp2
    go_ret
    exact ⟨.slice none 0 0, by rw [HQ.out, hmin.out]; rfl, World.ownsRow_nil _ _ _ _, HW.out _ hb2, FrW.of_below hb2⟩
set_option maxHeartbeats 4000000 in
set_option maxRecDepth 100000 in
theorem takeAll_any {B q g : Nat} {x : Op5} {r : List Op5} (n : Int) (w : World) (h : WkV w B q g (x :: r)) (hg : opE x = 0) (hn : len5 x ≤ n) (hr : r.length ≤ 8388608) :
    Calls Tryz.prog 78 #[.pointer (some ⟨q, 0, none⟩), .int .i64 n] w fun e w' => ∃ s, e = .returned (pieceQ (nx7 (x :: r) n).1 s) ∧ OwnA w' B s (nx7 (x :: r) n).1.A ∧ WkV w' B q g (nx7 (x :: r) n).2 ∧ FrW q g w w' := by
  rw [nx_all hn]
  have cD := doneW_any w h
  rw [decide_eq_false (List.cons_ne_nil _ _)] at cD
  obtain ⟨off, cap, s, c0, f0, hc, c1, f1, hs⟩ := h.read1
  have hl : (0 : Int) < ((r.length + 1 : Nat) : Int) := by omega
  obtain ⟨m, hm⟩ : ∃ m, r.length = m := ⟨_, rfl⟩
  obtain ⟨u, y, hux⟩ := pieceQ_if x s
  have HU : Hid (pieceQ x s = .iface u y) := hux
  have HM : Hid (r.length = m) := hm
  have HC : Hid (w.cell? ⟨q, 0, none⟩ = some (.slice (some ⟨g, off, none⟩) (r.length + 1) cap) ∧ OwnA w B s x.A ∧ WkV w B q g (x :: r)) := ⟨c0, hs, h⟩
  have hnn : Hid (len5 x ≤ n) := hn
  rw [hux] at c1
  rw [hm] at c0 hl hc hr
  obtain ⟨L, hL⟩ : ∃ L, len5 x = L := ⟨_, rfl⟩
  have HL : Hid (len5 x = L) := hL
  rw [hL] at hn
  have hge : L ≤ n := hn
  have hne : q ≠ g := h.ne
  have hne2 : g ≠ q := Ne.symm hne
  clear h hux hm hs hn hL
  go_enter Tryz.func78, Tryz.ntmps78
  go_wp2_with fail
  refine cD.mono ?_; rintro r' w2 ⟨rfl, hb2⟩
  have d0 := (hb2.cell (lt_of_cell c0)).trans c0
  have d1 := (hb2.cell (lt_of_cell c1)).trans c1
  have e0 := (hb2.frozen (lt_of_cell c0)).trans f0
  have HB2 : Hid (Below w.heap.size w w2) := hb2
  clear cD c0 c1 f0 f1 hb2
  go_wp2_with (refine wpList_lenP rfl (.tmp 21) rfl x s HU.out.symm hg ?_; rw [HL.out]; intro w3 hb3; have d0' := (hb3.cell (lt_of_cell d0)).trans d0; have e0' := (hb3.frozen (lt_of_cell d0)).trans e0; clear d0 e0)
  all_goals
    have H3 : WkV w3 B q g (x :: r) := (HC.out.2.2.below HB2.out).below hb3
    have C3 : w3.cell? ⟨q, 0, none⟩ = some (.slice (some ⟨g, off, none⟩) (r.length + 1) cap) := by rw [HM.out]; exact d0'
    have O3 : OwnA w3 B s x.A := owns_below (owns_below HC.out.2.1 HB2.out) hb3
    have F3 : FrW q g w w3 := (FrW.of_below HB2.out).trans (FrW.of_below hb3)
  · have hr0 : r = [] := List.eq_nil_of_length_eq_zero (by have := HM.out; omega)
    have hm0 : m = 0 := by omega
    subst hr0
    obtain ⟨a1, a2⟩ := H3.drop (p' := some ⟨g, off, none⟩) (c' := 0) C3 (Nat.zero_le _) (fun h => absurd rfl h)
    subst hm0
    go_ret
    exact ⟨s, by rw [HU.out]; rfl, keepA_own O3 a2.keepA, a1, F3.trans a2⟩
  · obtain ⟨a1, a2⟩ := H3.drop (p' := some ⟨g, off + 1, none⟩) (c' := cap - 1) C3 (by rw [HM.out]; omega) (fun _ => rfl)
    rw [HM.out] at a1 a2
    go_ret
    exact ⟨s, by rw [HU.out]; rfl, keepA_own O3 a2.keepA, a1, F3.trans a2⟩
set_option maxHeartbeats 4000000 in
set_option maxRecDepth 100000 in
theorem takePart_any {B q g : Nat} {x : Op5} {r : List Op5} (n : Int) (w : World) (h : WkV w B q g (x :: r)) (hg : opE x = 0) (h1 : 1 ≤ n) (hn : ¬ len5 x ≤ n) (ht : x.t.size ≤ 8388608) (hA : x.A.length ≤ 2097152) :
    Calls Tryz.prog 78 #[.pointer (some ⟨q, 0, none⟩), .int .i64 n] w fun e w' => ∃ s, e = .returned (pieceQ (nx7 (x :: r) n).1 s) ∧ OwnA w' B s (nx7 (x :: r) n).1.A ∧ WkV w' B q g (nx7 (x :: r) n).2 ∧ FrW q g w w' := by
  rw [nx_part hn]
  have cx := cut7 hg h1 (by omega)
  have cD := doneW_any w h
  rw [decide_eq_false (List.cons_ne_nil _ _)] at cD
  obtain ⟨off, cap, s, c0, f0, hc, c1, f1, hs⟩ := h.read1
  obtain ⟨ps, cs, rfl⟩ := own_slice hs
  have cC := fun W (hW : Below w.heap.size w W) => cut7_any ps x.A.length cs W hg h1 (by omega) ht (own_RN (owns_below hs hW)) hA
  have hl : (0 : Int) < ((r.length + 1 : Nat) : Int) := by omega
  obtain ⟨m, hm⟩ : ∃ m, r.length = m := ⟨_, rfl⟩
  have HM : Hid (r.length = m) := hm
  obtain ⟨u, y, hux⟩ := pieceQ_if x (.slice ps x.A.length cs)
  have HU : Hid (pieceQ x (.slice ps x.A.length cs) = .iface u y) := hux
  obtain ⟨ut, yt, hut⟩ := pieceQ_if (tl7 x n) (.slice ps x.A.length cs)
  have HT : Hid (pieceQ (tl7 x n) (.slice ps x.A.length cs) = .iface ut yt) := hut
  have HX : Hid ((hd7 x n).A = x.A ∧ (tl7 x n).A = x.A) := ⟨cx.hA, cx.tA⟩
  have HC : Hid (w.cell? ⟨q, 0, none⟩ = some (.slice (some ⟨g, off, none⟩) (r.length + 1) cap) ∧ OwnA w B (.slice ps x.A.length cs) x.A ∧ WkV w B q g (x :: r)) := ⟨c0, hs, h⟩
  rw [hux] at c1
  simp only [hux, hut] at cC
  rw [hm] at c0 hl hc
  obtain ⟨L, hL⟩ : ∃ L, len5 x = L := ⟨_, rfl⟩
  have HL : Hid (len5 x = L) := hL
  rw [hL] at hn
  have hge : ¬ L ≤ n := hn
  have hne : q ≠ g := h.ne
  have hne2 : g ≠ q := Ne.symm hne
  have hB : B ≤ w.heap.size := by have := h.lq; have := h.lt; omega
  clear h hux hm hs hn hL hut cx
  go_enter Tryz.func78, Tryz.ntmps78
  go_wp2_with fail
  refine cD.mono ?_; rintro r' w2 ⟨rfl, hb2⟩
  have d0 := (hb2.cell (lt_of_cell c0)).trans c0
  have d1 := (hb2.cell (lt_of_cell c1)).trans c1
  have e1 := (hb2.frozen (lt_of_cell c1)).trans f1
  have HB2 : Hid (Below w.heap.size w w2) := hb2
  clear cD c0 c1 f0 f1 hb2
  go_wp2_with (refine wpList_lenP rfl (.tmp 21) rfl x (.slice ps x.A.length cs) HU.out.symm hg ?_; rw [HL.out]; intro w3 hb3; have d0' := (hb3.cell (lt_of_cell d0)).trans d0; have d1' := (hb3.cell (lt_of_cell d1)).trans d1; have e1' := (hb3.frozen (lt_of_cell d1)).trans e1; have b3 := HB2.out.trans (hb3.mono HB2.out.size); clear d0 d1 e1 hb3)
  refine (cC _ b3).mono ?_; rintro r' w4 ⟨s1, rfl, own4, hb4⟩
  obtain ⟨uh, yh, huh⟩ := pieceQ_if (hd7 x n) s1
  have HH : Hid (pieceQ (hd7 x n) s1 = .iface uh yh) := huh
  rw [huh]
  have d0 := (hb4.cell (lt_of_cell d0')).trans d0'
  have d1 := (hb4.cell (lt_of_cell d1')).trans d1'
  have e1 := (hb4.frozen (lt_of_cell d1')).trans e1'
  have b4 := b3.trans (hb4.mono b3.size)
  have H4 : Hid (WkV w4 B q g (x :: r) ∧ OwnA w4 B (.slice ps x.A.length cs) x.A ∧ OwnA w4 B s1 x.A ∧ FrW q g w w4) := ⟨HC.out.2.2.below b4, owns_below HC.out.2.1 b4, own_weaken own4 (Nat.le_trans hB b3.size), FrW.of_below b4⟩
  clear cC huh own4 hb4 b3 b4 d0' d1' e1' hB
  go_wp2
  have C4 : w4.cell? ⟨q, 0, none⟩ = some (.slice (some ⟨g, off, none⟩) (r.length + 1) cap) := by rw [HM.out]; exact d0
  go_ret
  obtain ⟨g1, g2, g3, g4⟩ := H4.out
  obtain ⟨a1, a2⟩ := g1.put (x' := tl7 x n) (s' := .slice ps x.A.length cs) C4 (by rw [HX.out.2]; exact g2)
  rw [HT.out] at a1 a2
  exact ⟨s1, by rw [HH.out]; rfl, by rw [HX.out.1]; exact keepA_own g3 a2.keepA, a1, g4.trans a2⟩
theorem take_any {B q g : Nat} {R : List Op5} {N T K : Nat} (n : Int) (w : World) (h : WkV w B q g R) (hR : Rst R N T K) (hT : T ≤ 8388608) (hK : K ≤ 2097152) (hN : N ≤ 8388608) (hn : 1 ≤ n ∧ n ≤ 9223372036854775807) :
    Calls Tryz.prog 78 #[.pointer (some ⟨q, 0, none⟩), .int .i64 n] w fun e w' => ∃ s, e = .returned (pieceQ (nx7 R n).1 s) ∧ OwnA w' B s (nx7 R n).1.A ∧ WkV w' B q g (nx7 R n).2 ∧ FrW q g w w' := by
  cases R with
  | nil => exact takeNil_any n w h hn
  | cons x r =>
    have hx := hR.good x (List.mem_cons_self ..)
    by_cases hl : len5 x ≤ n
    · exact takeAll_any n w h hx hl (by have := hR.len; simp at this; omega)
    · exact takePart_any n w h hx hn.1 hl (Nat.le_trans (hR.size x (List.mem_cons_self ..)) hT) (Nat.le_trans (hR.attr x (List.mem_cons_self ..)) hK)
end Go.Proofs.YthfpmhnnjjikcaaGreatDoor

/- Next and Rest of a Walker. -/
namespace Go.Proofs.YthfpmhnnjjikcaaGreatDoor
open Go Go.RowKit Go.Lib
set_option linter.unusedVariables false
set_option maxHeartbeats 2000000 in
set_option maxRecDepth 100000 in
theorem nextW_any {B q g : Nat} {R : List Op5} {N T K : Nat} (n : Int) (w : World) (h : WkV w B q g R) (hR : Rst R N T K) (hT : T ≤ 8388608) (hK : K ≤ 2097152) (hN : N ≤ 8388608) (hn : 1 ≤ n ∧ n ≤ 9223372036854775807) :
    Calls Tryz.prog 28 #[.pointer (some ⟨q, 0, none⟩), .int .i64 n] w fun e w' => ∃ s, e = .returned (.tuple #[pieceQ (nx7 R n).1 s, .nilIface]) ∧ OwnA w' B s (nx7 R n).1.A ∧ WkV w' B q g (nx7 R n).2 ∧ FrW q g w w' := by
  have cT := take_any n w h hR hT hK hN hn
  have hn1 : ¬ n < 1 := by omega
  obtain ⟨P, hP⟩ : ∃ P, (nx7 R n).1 = P := ⟨_, rfl⟩
  rw [hP] at cT ⊢
  clear h hR hP
  go_enter Tryz.func28, Tryz.ntmps28
  go_wp2_with fail
  refine cT.mono ?_; rintro r w2 ⟨s, rfl, own2, h2, f2⟩
  obtain ⟨u, x, hux⟩ := pieceQ_if P s
  have HU : Hid (pieceQ P s = .iface u x) := hux
  have HW : Hid (OwnA w2 B s P.A ∧ WkV w2 B q g (nx7 R n).2 ∧ FrW q g w w2) := ⟨own2, h2, f2⟩
  rw [hux]
  clear cT own2 h2 f2 hux
  go_wp2
  go_ret2
  exact ⟨s, by rw [HU.out]; rfl, HW.out⟩
/-- What a Walker's row tells, one by one. -/
theorem WkV.row {w : World} {B q g : Nat} {R : List Op5} (h : WkV w B q g R) : ∃ p cap, w.cell? ⟨q, 0, none⟩ = some (.slice p R.length cap) ∧ R.length ≤ cap ∧ ∀ j, j < R.length → ∃ off e s, p = some ⟨g, off, none⟩ ∧ R[j]? = some e ∧ w.cell? ⟨g, off + j, none⟩ = some (pieceQ e s) ∧ OwnA w B s e.A := by
  obtain ⟨_, _, _, p, cap, h4, h5, h6⟩ := h
  refine ⟨p, cap, by rw [cell_of_heap h4]; rfl, h5, fun j hj => ?_⟩
  obtain ⟨off, cs, e, hgo, hr⟩ := h6 (fun h0 => by rw [h0] at hj; simp at hj)
  obtain ⟨s, a1, a2⟩ := hr j R[j] (List.getElem?_eq_getElem hj)
  exact ⟨off, R[j], s, e, List.getElem?_eq_getElem hj, by rw [cell_of_heap hgo]; exact a1, a2⟩
end Go.Proofs.YthfpmhnnjjikcaaGreatDoor

/- measure: take: the next cells of a Walker, as pieces. -/
namespace Go.Proofs.YthfpmhnnjjikcaaGreatDoor
open Go Go.RowKit Go.Lib
set_option linter.unusedVariables false
theorem frw_own {q g M : Nat} {w w' : World} {v : Value} {P : List Value} (f : FrW q g w w') (h : OwnI w M v P) (hq : q < M) (hg : g < M) : OwnI w' M v P :=
  owns_same h fun b e => by
    obtain ⟨h1, cs, h2⟩ := owns_block h b e
    rw [f.kept b _ h2 (.inr ⟨by omega, by omega⟩), h2]
theorem WkV.same8 {w w' : World} {B q g : Nat} {R : List Op5} (h : WkV w B q g R) (hq : ∀ o, w.heap[q]? = some o → w'.heap[q]? = some o) (hg : R ≠ [] → ∀ o, w.heap[g]? = some o → w'.heap[g]? = some o) (hk : KeepA w w') : WkV w' B q g R := by
  obtain ⟨h1, h2, h3, p, cap, h4, h5, h6⟩ := h
  refine ⟨h1, h2, h3, p, cap, hq _ h4, h5, fun h0 => ?_⟩
  obtain ⟨off, cs, e, hgo, hr⟩ := h6 h0
  refine ⟨off, cs, e, hg h0 _ hgo, fun j x hx => ?_⟩
  obtain ⟨s, a1, a2⟩ := hr j x hx
  exact ⟨s, a1, keepA_own a2 hk⟩
theorem tk_step {R : List Op5} {N T K : Nat} (h : Rst R N T K) (h0 : R ≠ []) {n : Int} (h1 : 1 ≤ n) : (left7 R ≤ n → len5 (nx7 R n).1 = left7 R ∧ (nx7 R n).1.t.size + txtS (nx7 R n).2 ≤ txtS R ∧ (nx7 R n).2.length + 1 = R.length) ∧ (¬ left7 R ≤ n → len5 (nx7 R n).1 = n ∧ (nx7 R n).1.t.size + txtS (nx7 R n).2 ≤ txtS R + T ∧ (nx7 R n).2.length = R.length) := by
  cases R with
  | nil => exact absurd rfl h0
  | cons x r =>
    have hx := h.good x (List.mem_cons_self ..)
    refine ⟨fun hl => ?_, fun hl => ?_⟩
    · have e : nx7 (x :: r) n = (x, r) := nx_all hl
      rw [e]
      exact ⟨rfl, by rw [txtS_cons]; exact Nat.le_refl _, by simp⟩
    · have hl' : ¬ len5 x ≤ n := hl
      have e : nx7 (x :: r) n = (hd7 x n, tl7 x n :: r) := nx_part hl'
      have c := cut7 hx h1 (by omega)
      have := c.hz
      have := c.tz
      have := h.txt
      rw [e]
      refine ⟨c.hl, ?_, by simp⟩
      show (hd7 x n).t.size + txtS (tl7 x n :: r) ≤ _
      rw [txtS_cons] at *
      rw [txtS_cons]
      omega
theorem units_nil_len {R : List Op5} {m : Int} (h : m ≤ ((units R).length : Int)) (h1 : 1 ≤ m) : R ≠ [] := fun e => by subst e; simp [units] at h; omega
/-- What take has behind it. -/
structure Tk8 (w wr : World) (B q g : Nat) (R : List Op5) (N T K : Nat) (n m : Int) (P R' : List Op5) : Prop where
  wk : WkV wr B q g R'
  rst : Rst R' N T K
  un : units R = units P ++ units R'
  len : m + ((units P).length : Int) = n
  few : m ≤ ((units R').length : Int)
  good : ∀ o ∈ P, opE o = 0 ∧ FitA o
  fr : FrW q g w wr
  ne : R' ≠ [] → R ≠ []
  cnt : (txtS P + txtS R' ≤ txtS R ∧ P.length + R'.length ≤ R.length) ∨ (m = 0 ∧ txtS P + txtS R' ≤ txtS R + T ∧ P.length + R'.length ≤ R.length + 1)
theorem Tk8.step {w wr w8 : World} {B q g : Nat} {R : List Op5} {N T K : Nat} {n m : Int} {P R' : List Op5} (h : Tk8 w wr B q g R N T K n m P R') (h1 : 1 ≤ m) (hk : WkV w8 B q g (nx7 R' m).2) (hf : FrW q g w w8) : Tk8 w w8 B q g R N T K n (m - len5 (nx7 R' m).1) (P ++ [(nx7 R' m).1]) (nx7 R' m).2 ∧ 1 ≤ len5 (nx7 R' m).1 ∧ len5 (nx7 R' m).1 ≤ m := by
  have h0 := units_nil_len h.few h1
  obtain ⟨p1, p2, p3, p4, p5, p6⟩ := h.rst.piece h1
  have hu := h.rst.units h1 h0
  have hl := len5_units (wel_of p1)
  have hp := len5_pos p1
  obtain ⟨s1, s2⟩ := tk_step h.rst h0 h1
  have hle : len5 (nx7 R' m).1 ≤ m := by omega
  refine ⟨⟨hk, h.rst.next h1, ?_, ?_, ?_, ?_, hf, fun _ => h.ne h0, ?_⟩, hp, hle⟩
  · rw [h.un, hu, units_append, units_one, List.append_assoc]
  · have := h.len
    rw [units_append, units_one, List.length_append]
    omega
  · have h3 := h.few
    rw [hu, List.length_append] at h3
    omega
  · intro o ho
    rcases List.mem_append.1 ho with ho | ho
    · exact h.good o ho
    · rw [List.mem_singleton.1 ho]; exact ⟨p1, p2⟩
  · have hc := h.cnt.resolve_right (by omega)
    rw [txtS_append, txtS_one, List.length_append]
    by_cases hl2 : left7 R' ≤ m
    · have := s1 hl2
      left
      simp only [List.length_singleton]
      omega
    · have := s2 hl2
      have ht := h.rst.txt
      right
      simp only [List.length_singleton]
      omega
set_option maxHeartbeats 4000000 in
set_option maxRecDepth 100000 in
theorem take8_any {B q g : Nat} {R : List Op5} {N T K : Nat} (n : Int) (w : World) (h : WkV w B q g R) (hgl : R ≠ [] → g < w.heap.size) (hR : Rst R N T K) (hT : T ≤ 4194304) (hK : K ≤ 2097152) (hN : N ≤ 4194304) (hn : 0 ≤ n ∧ n ≤ ((units R).length : Int) ∧ n ≤ 2199023255552) :
    Calls Tryz.prog 118 #[.pointer (some ⟨q, 0, none⟩), .int .i64 n] w fun r w' => ∃ v, r = .returned v ∧ ∃ P R', Tk8 w w' B q g R N T K n 0 P R' ∧ ∃ PL, OwnI w' w.heap.size v PL ∧ PieD w' B PL P := by
  have hq := h.lt
  have HB : Hid (q < w.heap.size ∧ (R ≠ [] → g < w.heap.size) ∧ B ≤ w.heap.size) := ⟨hq, hgl, by have := h.lq; omega⟩
  have HL : Hid (R.length ≤ N) := hR.len
  have H0 : Hid (Tk8 w w B q g R N T K n n [] R) := ⟨h, hR, rfl, by simp [units], hn.2.1, fun o ho => (by cases ho), FrW.refl _ _ _, id, .inl ⟨by simp [txtS], by simp⟩⟩
  have hn1 : 0 ≤ n := hn.1
  have hn2 : n ≤ 2199023255552 := hn.2.2
  clear h hgl hR hn hq
  go_enter Tryz.func118, Tryz.ntmps118
  go_wp2
  go_loopw [1, 5] (fun x1 x5 wr => ∃ (m : Int) (P R' : List Op5) (PL : List Value), x1 = .int .i64 m ∧ 0 ≤ m ∧ m ≤ 2199023255552 ∧ Hid (Tk8 w wr B q g R N T K n m P R') ∧ Hid (OwnI wr w.heap.size x5 PL ∧ PieD wr B PL P)) (fun x1 _ _ => (RowKit.intOf x1).toNat)
  case atStart => exact ⟨n, [], R, [], rfl, hn1, hn2, H0.out, World.ownsRow_nil _ _ _ _, .nil⟩
  case round =>
    clear H0 hn1 hn2
    obtain ⟨m, P, R', PL, rfl, hm0, hm2, HT, HO⟩ := hrel
    by_cases hlt : 0 < m
    · have h0 := units_nil_len HT.out.few hlt
      have cN := nextW_any m wr HT.out.wk HT.out.rst (by omega) hK (by omega) ⟨hlt, by omega⟩
      have hpc := (HT.out.rst.piece (n := m) hlt).1
      have HS : Hid (∀ w8, WkV w8 B q g (nx7 R' m).2 → FrW q g w w8 → Tk8 w w8 B q g R N T K n (m - len5 (nx7 R' m).1) (P ++ [(nx7 R' m).1]) (nx7 R' m).2 ∧ 1 ≤ len5 (nx7 R' m).1 ∧ len5 (nx7 R' m).1 ≤ m) := fun w8 => HT.out.step hlt
      have HG : Hid (g < w.heap.size) := HB.out.2.1 (HT.out.ne h0)
      have hPL : PL.length ≤ 8388608 := by
        rw [forall2_len HO.out.2]
        have := HT.out.cnt
        have := HL.out
        omega
      have HF : Hid (FrW q g w wr) := HT.out.fr
      obtain ⟨e, he⟩ : ∃ x, (nx7 R' m).1 = x := ⟨_, rfl⟩
      obtain ⟨R2, hR2⟩ : ∃ x, (nx7 R' m).2 = x := ⟨_, rfl⟩
      rw [he] at hpc cN HS
      rw [hR2] at cN HS
      clear he hR2 h0 HT
      go_wp2_with fail
      refine cN.mono ?_; rintro r w2 ⟨s, rfl, o2, k2, f2⟩
      obtain ⟨u, y, hux⟩ := pieceQ_if e s
      have HU : Hid (pieceQ e s = .iface u y) := hux
      rw [hux]
      have f02 := HF.out.trans f2
      have ba : Below w2.heap.size w2 (w2.alloc (.cells #[.iface u y] 56)) := (Below.refl _ _).alloc (Nat.le_refl _) _
      have hu6 : (w2.alloc (.cells #[.iface u y] 56)).cell? ⟨w2.heap.size, 0, none⟩ = some (.iface u y) := by simp
      have hz2 : w.heap.size ≤ w2.heap.size := f02.size
      have HO7 : Hid (OwnI (w2.alloc (.cells #[.iface u y] 56)) w.heap.size u5 PL) := owns_below (frw_own f2 HO.out.1 HB.out.1 HG.out) ba
      have HP7 : Hid (PieD (w2.alloc (.cells #[.iface u y] 56)) B (PL ++ [.iface u y]) (P ++ [e])) := forall2_append ((HO.out.2.keep f2.keepA).below ba) (.cons ⟨s, HU.out.symm, owns_below o2 ba⟩ .nil)
      have hzA : w.heap.size ≤ (w2.alloc (.cells #[.iface u y] 56)).heap.size := Nat.le_trans hz2 ba.size
      have HK7 : Hid (∀ w8, (w2.alloc (.cells #[.iface u y] 56)).grownBy w8 u5.ownBlock → Tk8 w w8 B q g R N T K n (m - len5 e) (P ++ [e]) R2 ∧ PieD w8 B (PL ++ [.iface u y]) (P ++ [e]) ∧ 1 ≤ len5 e ∧ len5 e ≤ m ∧ ∀ w9, Below w8.heap.size w8 w9 → Tk8 w w9 B q g R N T K n (m - len5 e) (P ++ [e]) R2) := fun w8 gr8 => by
        have b8 : Below w.heap.size w2 w8 := (ba.mono hz2).grown gr8 hzA (fun j hj => (owns_block HO7.out j hj).1)
        have kA := keepA_grownI HO7.out gr8
        have one : ∀ w9, Below w.heap.size w2 w9 → KeepA w2 w9 → Tk8 w w9 B q g R N T K n (m - len5 e) (P ++ [e]) R2 ∧ 1 ≤ len5 e ∧ len5 e ≤ m := fun w9 b9 k9 => by
          refine HS.out w9 (k2.same8 (fun o ho => (b9.block q HB.out.1).trans ho) (fun _ o ho => (b9.block g HG.out).trans ho) k9) ⟨b9.os.trans f02.os, b9.tape.trans f02.tape, b9.output.trans f02.output, Nat.le_trans f02.size b9.size, fun k o hk ho => ?_⟩
          exact (b9.block k (Array.getElem?_eq_some_iff.1 hk).1).trans (f02.kept k o hk ho)
        have k8 : KeepA w2 w8 := fun k cur hk => by
          have h3 := keepA_below ba k cur hk
          rw [kA k cur (h3.trans hk), h3]
        obtain ⟨t1, t2, t3⟩ := one w8 b8 k8
        refine ⟨t1, HP7.out.keep kA, t2, t3, fun w9 b9 => (one w9 (b8.trans (b9.mono (Nat.le_trans hz2 b8.size))) (fun k cur hk => ?_)).1⟩
        have h3 := k8 k cur hk
        rw [keepA_below b9 k cur (h3.trans hk), h3]
      clear cN o2 k2 f2 f02 hux HS HO HF ba
      go_wp2_with (first
        | (at_builtin; refine wpList_append_piAt rfl (.tmp 16) (.tmp 18) rfl w.heap.size u5 PL rfl HO7.out w2.heap.size 1 (.iface u y) rfl hu6 rfl hPL hzA ?_; intro v8 w8 own8 gr8 hat8; obtain ⟨-, hP8, hl1, hl2, hT8⟩ := HK7.out w8 gr8; have HO8 : Hid (OwnI w8 w.heap.size v8 (PL ++ [.iface u y]) ∧ PieD w8 B (PL ++ [.iface u y]) (P ++ [e])) := ⟨own8, hP8⟩; have HT8 : Hid _ := hT8; clear own8 gr8 hat8 HO7 HP7 HK7 hu6 hP8 hT8)
        | (refine wpList_lenP rfl (.tmp 21) rfl e s HU.out.symm hpc ?_; intro w9 b9; have HT9 := HT8.out w9 b9; have HO9 : Hid (OwnI w9 w.heap.size v8 (PL ++ [.iface u y]) ∧ PieD w9 B (PL ++ [.iface u y]) (P ++ [e])) := ⟨owns_below HO8.out.1 b9, HO8.out.2.below b9⟩; clear HT8 HO8))
      go_roundw
      case rel => exact ⟨_, _, _, _, rfl, by omega, by omega, HT9, HO9.out⟩
      case measure => simp [RowKit.intOf]; omega
    · have hm : m = 0 := by omega
      subst hm
      go_wp2
      go_ret
      exact ⟨_, rfl, P, ⟨R', HT.out⟩, PL, HO.out⟩
end Go.Proofs.YthfpmhnnjjikcaaGreatDoor

/- A delta of a list made canonical. -/
namespace Go.Proofs.YthfpmhnnjjikcaaGreatDoor
open Go Go.RowKit Go.Lib
set_option linter.unusedVariables false
theorem dle_of {w' : World} {C1 C2 : Nat} {dv : Value} {L : List Op5} (hd : DelV w' C1 C2 dv (canonL L)) (hg : ∀ o ∈ L, opE o = 0) (hfit : ∀ o ∈ L, FitA o) (hlen : L.length ≤ 2097152) (ht : txtS L ≤ 4194304) (hf : Fits8 L) : DlE w' C1 C2 dv (canonL L) ∧ (canonL L).length ≤ L.length ∧ txtS (canonL L) ≤ txtS L := by
  obtain ⟨k1, k2, k3⟩ := canon_ok (E := L) ⟨hg, hfit, by omega, by omega, hf.1, hf.2⟩
  exact ⟨⟨hd, k1.good, k1.fit, by omega, by omega, k1.base, k1.res⟩, by omega, by omega⟩
end Go.Proofs.YthfpmhnnjjikcaaGreatDoor

/- measure: Slice. -/
namespace Go.Proofs.YthfpmhnnjjikcaaGreatDoor
open Go Go.RowKit Go.Lib
set_option linter.unusedVariables false
theorem Hid.mk7' {P : Prop} (h : P) : Hid P := h
/-- Nothing but inserts. -/
def InsU (U : List U6) : Prop := ∃ l : List C5, U = l.map .ins
theorem insU_of : ∀ {U : List U6}, baseU U = 0 → InsU U
  | [], _ => ⟨[], rfl⟩
  | .ins c :: U, h => by
    have h2 : baseU U = 0 := by unfold baseU at h ⊢; simpa using h
    obtain ⟨l, hl⟩ := insU_of h2
    exact ⟨c :: l, by rw [hl]; rfl⟩
  | .keep A :: U, h => by unfold baseU at h; simp at h
  | .del :: U, h => by unfold baseU at h; simp at h
theorem InsU.append {U V : List U6} (h : InsU (U ++ V)) : InsU U ∧ InsU V := by
  obtain ⟨l, hl⟩ := h
  refine ⟨⟨l.take U.length, ?_⟩, ⟨l.drop U.length, ?_⟩⟩
  · have := congrArg (List.take U.length) hl
    rw [List.take_left, ← List.map_take] at this
    exact this
  · have := congrArg (List.drop U.length) hl
    rw [List.drop_left, ← List.map_drop] at this
    exact this
theorem InsU.nrm {U : List U6} (h : InsU U) : stripU (nrm [] 0 U) = U := by
  obtain ⟨l, rfl⟩ := h
  rw [nrm_ins0, strip_ins]
theorem InsU.sums {U : List U6} (h : InsU U) : baseU U = 0 ∧ resU U = U.length := by
  obtain ⟨l, rfl⟩ := h
  unfold baseU resU
  constructor
  · rw [countP_none]; intro u hu; obtain ⟨c, _, rfl⟩ := List.mem_map.1 hu; rfl
  · rw [countP_all]; intro u hu; obtain ⟨c, _, rfl⟩ := List.mem_map.1 hu; rfl
/-- What Slice answers. -/
def SlR (a : Nat → Addr) (w' : World) (E : List Op5) (i j : Int) (dv er : Value) : Prop :=
  (0 < sumB E → dv = .pointer none ∧ er = errV a 8) ∧
  (sumB E = 0 → (i < 0 ∨ j < i ∨ sumR E < j) → dv = .pointer none ∧ er = errV a 11) ∧
  (sumB E = 0 → ¬ (i < 0 ∨ j < i ∨ sumR E < j) → er = .nilIface ∧ ∃ L C1 C2, DlE w' C1 C2 dv L ∧ CanO L ∧ units L = ((units E).drop i.toNat).take (j - i).toNat ∧ L.length ≤ E.length + 1 ∧ txtS L ≤ 2 * txtS E)
set_option maxHeartbeats 4000000 in
set_option maxRecDepth 100000 in
theorem slice8_any {I : List Nat} {a : Nat → Addr} {B1 B2 : Nat} (v : Value) (E : List Op5) (i j : Int) (w : World) (hI : ∀ i ∈ IxO, i ∈ I) (h11 : 11 ∈ I) (hS : Std I a w) (hE : DlE w B1 B2 v E) (hc : CanO E) (hl : E.length + 1 ≤ 2097152) (ht : txtS E ≤ 2097152) (hi : -9223372036854775808 ≤ i ∧ i ≤ 9223372036854775807) (hj : -9223372036854775808 ≤ j ∧ j ≤ 9223372036854775807) :
    Calls Tryz.prog 89 #[v, .int .i64 i, .int .i64 j] w fun r w' => ∃ dv er, r = .returned (.tuple #[dv, er]) ∧ SlR a w' E i j dv er ∧ Below w.heap.size w w' := by
  have c1 := count_any8 v E w hE
  have hs := hE.sums
  have cB := fun W => cbase_any (sumK8 E) (sumI8 E) (sumD8 E) W ⟨hs.1, hs.2.2.1⟩
  have cR := fun W => cresult_any (sumK8 E) (sumI8 E) (sumD8 E) W ⟨hs.1, hs.2.1⟩
  rw [← hs.2.2.2.1] at cB
  rw [← hs.2.2.2.2] at cR
  have gO : w.cell? ⟨2, 0, none⟩ = some (errV a 8) := hS.er.cell 8 (hI 8 (by decide))
  have gR : w.cell? ⟨0, 0, none⟩ = some (errV a 11) := hS.er.cell 11 h11
  obtain ⟨q1, pv1, PL1, rfl, _⟩ := id hE.d
  have HE : Hid (DlE w B1 B2 (.pointer (some ⟨q1, 0, none⟩)) E ∧ CanO E ∧ E.length + 1 ≤ 2097152 ∧ txtS E ≤ 2097152 ∧ Std I a w) := ⟨hE, hc, hl, ht, hS⟩
  have hnn := sums_nn hE.wel
  have hff := hE.fits
  unfold Fits8 at hff
  obtain ⟨B, hB⟩ : ∃ x, sumB E = x := ⟨_, rfl⟩
  obtain ⟨R, hR⟩ : ∃ x, sumR E = x := ⟨_, rfl⟩
  obtain ⟨K, hK⟩ : ∃ x, sumK8 E = x := ⟨_, rfl⟩
  obtain ⟨J, hJ⟩ : ∃ x, sumI8 E = x := ⟨_, rfl⟩
  obtain ⟨D, hD⟩ : ∃ x, sumD8 E = x := ⟨_, rfl⟩
  have HB : Hid (sumB E = B ∧ sumR E = R) := ⟨hB, hR⟩
  rw [hB, hR] at hnn hff
  simp only [hK, hJ, hD] at c1
  simp only [hK, hJ, hD, hB] at cB
  simp only [hK, hJ, hD, hR] at cR
  unfold cnt8 at c1 cB cR
  have HI : Hid (∀ i ∈ IxO, i ∈ I) := hI
  clear hE hs hc hl ht hS hB hR hK hJ hD hI
  go_enter Tryz.func89, Tryz.ntmps89
  go_wp2_with fail
  refine c1.mono ?_; rintro r w2 ⟨rfl, b2⟩
  have c2 := cB (w2.alloc (.cells #[.int .i64 K, .int .i64 J, .int .i64 D] 153))
  have ba : Below w2.heap.size w2 (w2.alloc (.cells #[.int .i64 K, .int .i64 J, .int .i64 D] 153)) := (Below.refl _ _).alloc (Nat.le_refl _) _
  have b3 := b2.trans (ba.mono b2.size)
  have hx := heap_alloc_new w2 (.cells #[.int .i64 K, .int .i64 J, .int .i64 D] 153)
  obtain ⟨X, hX⟩ : ∃ X, w2.heap.size = X := ⟨_, rfl⟩
  go_wp2_with fail
  refine c2.mono ?_; rintro r w4 ⟨rfl, b4⟩
  have hx4 := heap_below b4 hx
  have k0 : w4.cell? ⟨w2.heap.size, 0, none⟩ = some (.int .i64 K) := by rw [cell_of_heap hx4]; rfl
  have k1 : w4.cell? ⟨w2.heap.size, 1, none⟩ = some (.int .i64 J) := by rw [cell_of_heap hx4]; rfl
  have k2 : w4.cell? ⟨w2.heap.size, 2, none⟩ = some (.int .i64 D) := by rw [cell_of_heap hx4]; rfl
  rw [hX] at k0 k1 k2
  have hb4 := b3.trans (b4.mono b3.size)
  have g4 := (hb4.cell (lt_of_cell gO)).trans gO
  have g5 := (hb4.cell (lt_of_cell gR)).trans gR
  clear c1 c2 cB b2 ba b3 b4 hx hx4 gO gR
  by_cases hB0 : 0 < B
  · have hB1 : B > 0 := hB0
    have HR : Hid (∀ W, SlR a W E i j (.pointer none) (errV a 8)) := fun W => ⟨fun _ => ⟨rfl, rfl⟩, fun h => (by have := HB.out.1; omega), fun h => (by have := HB.out.1; omega)⟩
    clear HE cR k0 k1 k2 g5
    go_wp2
    go_quiet (fail)
    go_wp2
    go_ret2
    exact ⟨_, _, rfl, HR.out _, below_drewN hb4 _⟩
  have hB1 : ¬ B > 0 := by omega
  have hBz : B = 0 := by omega
  by_cases hbad : i < 0 ∨ j < i ∨ R < j
  · have HR : Hid (∀ W, SlR a W E i j (.pointer none) (errV a 11)) := fun W => ⟨fun h => (by have := HB.out.1; omega), fun _ _ => ⟨rfl, rfl⟩, fun _ h => absurd (by have := HB.out.2; omega) h⟩
    by_cases h1 : i < 0
    · clear HE cR k0 k1 k2 g4 hbad
      go_wp2
      go_quiet (fail)
      go_wp2
      go_ret2
      exact ⟨_, _, rfl, HR.out _, below_drewN hb4 _⟩
    by_cases h2 : i > j
    · clear HE cR k0 k1 k2 g4 hbad
      go_wp2
      go_quiet (fail)
      go_wp2
      go_ret2
      exact ⟨_, _, rfl, HR.out _, below_drewN hb4 _⟩
    have h3 : j > R := by omega
    have c3 := cR w4
    clear HE cR g4 hbad
    go_wp2_with fail
    refine c3.mono ?_; rintro r w5 ⟨rfl, b5⟩
    have hb5 := hb4.trans (b5.mono hb4.size)
    have g6 := (b5.cell (lt_of_cell g5)).trans g5
    clear c3 b5 hb4 g5 k0 k1 k2
    go_wp2
    go_quiet (fail)
    go_wp2
    go_ret2
    exact ⟨_, _, rfl, HR.out _, below_drewN hb5 _⟩
  have h1 : ¬ i < 0 := by omega
  have h2 : ¬ i > j := by omega
  have h3 : ¬ j > R := by omega
  have hsub : IntKind.i64.wrap (j - i) = j - i := by rw [IntKind.wrap_i64]; omega
  obtain ⟨n, hn⟩ : ∃ n, j - i = n := ⟨_, rfl⟩
  have hins : InsU (units E) := insU_of (by have := HB.out.1; rw [sumB_units HE.out.1.wel] at this; omega)
  have hlen : ((units E).length : Int) = R := by have := HB.out.2; rw [sumR_units HE.out.1.wel, hins.sums.2] at this; exact this
  have HU : Hid (InsU (units E) ∧ ((units E).length : Int) = R ∧ 0 ≤ i ∧ i ≤ j ∧ j ≤ R ∧ R ≤ 1099511627776 ∧ j - i = n ∧ sumB E = 0) := ⟨hins, hlen, by omega, by omega, by omega, hff.2, hn, by rw [HB.out.1]; exact hBz⟩
  have hRst : Rst E E.length (txtS E) 1048576 := ⟨HE.out.1.g, HE.out.1.fit, Nat.le_refl _, fun o ho => (HE.out.1.fit o ho).n, Nat.le_refl _, HE.out.2.1.chain, HE.out.2.1.last, HE.out.1.fits.1, HE.out.1.fits.2⟩
  have HRst : Hid (Rst E E.length (txtS E) 1048576) := hRst
  have HNT : Hid (E.length ≤ 2097151 ∧ txtS E ≤ 2097152) := ⟨by have := HE.out.2.2.1; omega, HE.out.2.2.2.1⟩
  have c3 := cR w4
  rw [hn] at hsub
  clear cR g4 g5 hbad hins hlen hRst hB0 hBz hnn hff
  go_wp2_with fail
  refine c3.mono ?_; rintro r w5 ⟨rfl, b5⟩
  have hb5 := hb4.trans (b5.mono hb4.size)
  have HE5 := Hid.mk7' (HE.out.1.below hb5)
  have c5 := newW_any _ E w5 HE5.out.d HE5.out.g HE5.out.n (by have := HE5.out.len; omega)
  clear c3 b5 hb4 k0 k1 k2
  go_wp2_with fail
  refine c5.mono ?_; rintro r w6 ⟨q, g, rfl, hw6, hg6, b6⟩
  have hb6 := hb5.trans (b6.mono hb5.size)
  have c6 := take8_any i w6 hw6 hg6 HRst.out (by have := HNT.out; omega) (by decide) (by have := HNT.out; omega) ⟨HU.out.2.2.1, by have := HU.out; omega, by have := HU.out; omega⟩
  have HQ6 : Hid (w5.heap.size ≤ q ∧ w5.heap.size ≤ g ∧ w5.heap.size ≤ w6.heap.size ∧ w.heap.size ≤ w5.heap.size) := ⟨hw6.lq, hw6.lg, b6.size, hb5.size⟩
  have HG6 : Hid (E ≠ [] → g < w6.heap.size) := hg6
  clear c5 hw6 hg6 b6 hb5 HE5
  go_wp2_with fail
  refine c6.mono ?_; rintro r w7 ⟨v7, rfl, P1, R1, T1, PL1, own1, -⟩
  obtain ⟨p7, n7, rfl⟩ := own_slice own1
  have hb7 : Below w.heap.size w w7 := hb6.trans ((T1.fr.below HQ6.out.1 HQ6.out.2.1 HQ6.out.2.2.1).mono HQ6.out.2.2.2)
  have hu1 := T1.un
  have hl1 := T1.len
  have hR1 : units R1 = (units E).drop i.toNat := by
    rw [hu1, show i.toNat = (units P1).length by omega, List.drop_left]
  have hlR1 : n ≤ ((units R1).length : Int) := by
    rw [hR1, List.length_drop]
    have := HU.out
    omega
  have c7 := take8_any n w7 T1.wk (fun h => by have := HG6.out (T1.ne h); have := T1.fr.size; omega) T1.rst (by have := HNT.out; omega) (by decide) (by have := HNT.out; omega) ⟨by have := HU.out; omega, hlR1, by have := HU.out; omega⟩
  have HT1 : Hid (units R1 = (units E).drop i.toNat ∧ Rst R1 E.length (txtS E) 1048576 ∧ w6.heap.size ≤ w7.heap.size) := ⟨hR1, T1.rst, T1.fr.size⟩
  obtain ⟨m7, hm7⟩ : ∃ m, PL1.length = m := ⟨_, rfl⟩
  rw [hm7]
  clear c6 own1 hu1 hl1 hR1 hlR1 T1 hb6 hm7 HG6
  go_wp2_with fail
  refine c7.mono ?_; rintro r w8 ⟨v8, rfl, P2, R2, T2, PL2, own2, pie2⟩
  have hb8 : Below w.heap.size w w8 := hb7.trans ((T2.fr.below HQ6.out.1 HQ6.out.2.1 (Nat.le_trans HQ6.out.2.2.1 HT1.out.2.2)).mono HQ6.out.2.2.2)
  have hu2 := T2.un
  have hl2 := T2.len
  have hP2 : units P2 = ((units E).drop i.toNat).take (j - i).toNat := by
    rw [← HT1.out.1, hu2, HU.out.2.2.2.2.2.2.1, show n.toNat = (units P2).length by omega, List.take_left]
  have hiU : InsU (units P2) := by
    have h := HU.out.1
    rw [← List.take_append_drop i.toNat (units E), ← HT1.out.1, hu2] at h
    exact h.append.2.append.1
  have hg2 : ∀ o ∈ P2, opE o = 0 := fun o ho => (T2.good o ho).1
  have hw2 : ∀ o ∈ P2, Wel o := fun o ho => wel_of (hg2 o ho)
  have hfit : Fits8 P2 := by
    unfold Fits8
    rw [sumB_units hw2, sumR_units hw2, hiU.sums.1, hiU.sums.2]
    have := HU.out
    omega
  have hln0 : P2.length ≤ E.length + 1 := by have := T2.cnt; have := HT1.out.2.1.len; omega
  have htx0 : txtS P2 ≤ 2 * txtS E := by have := T2.cnt; have := HT1.out.2.1.txt; omega
  have hln : P2.length ≤ 2097152 := by have := HNT.out; omega
  have htx : txtS P2 ≤ 4194304 := by have := HNT.out; omega
  have HS8 := HE.out.2.2.2.2.below hb8
  have c8 := gath8_any v8 PL2 P2 w8 HI.out HS8 own2 pie2 hg2 (fun o ho => (T2.good o ho).2) hln (by omega)
  have HR : Hid (∀ W' C1 C2 dv, DelV W' C1 C2 dv (canonL P2) → SlR a W' E i j dv .nilIface) := fun W' C1 C2 dv hd => ⟨fun h => (by have := HU.out; omega), fun _ h => absurd h (by have := HU.out; have := HB.out; omega), fun _ _ => ⟨rfl, canonL P2, C1, C2, (dle_of hd hg2 (fun o ho => (T2.good o ho).2) hln htx hfit).1, .of hw2, by
    obtain ⟨_, _, _, h⟩ := canon_spec hw2
    rw [h, hiU.nrm, hP2], by have := (dle_of hd hg2 (fun o ho => (T2.good o ho).2) hln htx hfit).2.1; omega, by have := (dle_of hd hg2 (fun o ho => (T2.good o ho).2) hln htx hfit).2.2; omega⟩⟩
  have HFit : Hid (Fits8 P2) := hfit
  obtain ⟨p8, n8, rfl⟩ := own_slice own2
  obtain ⟨m8, hm8⟩ : ∃ m, PL2.length = m := ⟨_, rfl⟩
  rw [hm8] at c8 ⊢
  clear c7 own2 pie2 hu2 hl2 hP2 hiU hg2 hw2 hfit hln htx hln0 htx0 HS8 hb7 T2 hm8
  go_wp2_with fail
  refine c8.mono ?_; rintro r w9 ⟨dv, er, rfl, y1, -, b9⟩
  obtain ⟨rfl, hd⟩ := y1 HFit.out
  have HR9 := Hid.mk7' (HR.out _ _ _ _ hd)
  obtain ⟨q9, pv9, PL9, rfl, _⟩ := id hd
  have hb9 := hb8.trans (b9.mono hb8.size)
  clear c8 y1 hd b9 hb8 HR
  go_wp2
  go_ret2
  exact ⟨_, _, rfl, HR9.out, hb9⟩
end Go.Proofs.YthfpmhnnjjikcaaGreatDoor

/- cells.At. -/
namespace Go.Proofs.YthfpmhnnjjikcaaGreatDoor
open Go Go.RowKit Go.Lib Go.Shelf
set_option linter.unusedVariables false
/-- A slice of one cell of a document. -/
theorem one_cell9 {E L : List Op5} {k : Nat} {c : C5} (hw : ∀ o ∈ E, Wel o) (hd : DocL E) (hL : ∀ o ∈ L, Wel o) (hc : (cellsL E)[k]? = some c) (hu : units L = ((units E).drop k).take 1) : cellsL L = [c] ∧ sumB L = 0 ∧ sumR L = 1 := by
  have h1 : units L = [c].map .ins := by
    rw [hu, units_doc hd, ← List.map_drop, ← List.map_take]
    congr 1
    obtain ⟨hk, rfl⟩ := List.getElem?_eq_some_iff.1 hc
    rw [List.drop_eq_getElem_cons hk, List.take_succ_cons, List.take_zero]
  have hdl := wel_doc hL h1
  refine ⟨ins_map_inj (by rw [← units_doc hdl, h1]), ?_, ?_⟩
  · rw [sumB_units hL, h1]; rfl
  · rw [sumR_units hL, h1]; rfl
set_option maxHeartbeats 4000000 in
set_option maxRecDepth 100000 in
theorem at9_no {B1 B2 : Nat} {I : List Nat} {a : Nat → Addr} (v : Value) (E : List Op5) (i : Int) (x : Nat) (w : World) (hI : ∀ i ∈ IxO, i ∈ I) (h11 : 11 ∈ I) (hS : Std I a w) (hE : DlE w B1 B2 v E) (hc : CanO E) (hl : E.length + 1 ≤ 2097152) (ht : txtS E ≤ 2097152) (hi : -9223372036854775808 ≤ i ∧ i ≤ 9223372036854775807)
    (hx : (0 < sumB E ∧ x = 8) ∨ (sumB E = 0 ∧ (i < 0 ∨ sumR E ≤ i) ∧ x = 11)) :
    Calls Tryz.prog 39 #[v, .int .i64 i] w fun r w' => r = .returned (.tuple #[.agg #[.int .i32 0, .string ⟨#[]⟩, .int .i64 0, .int .i64 0, .string ⟨#[]⟩, .slice none 0 0], errV a x]) ∧ Below w.heap.size w w' := by
  have bA : Below w.heap.size w (w.alloc (.cells #[.int .i32 0, .string ⟨#[]⟩, .int .i64 0, .int .i64 0, .string ⟨#[]⟩, .slice none 0 0] 84)) := (Below.refl _ _).alloc (Nat.le_refl _) _
  obtain ⟨j, hj⟩ : ∃ j, IntKind.i64.wrap (i + 1) = j := ⟨_, rfl⟩
  have hjr : (-9223372036854775808 ≤ j ∧ j ≤ 9223372036854775807) ∧ (j = i + 1 ∨ j < i) := by rw [IntKind.wrap_i64] at hj; omega
  have c1 := slice8_any v E i j _ hI h11 (hS.below bA) (hE.below bA) hc hl ht hi hjr.1
  have hR := hE.sums
  have HX : Hid ((0 < sumB E ∧ x = 8) ∨ (sumB E = 0 ∧ (i < 0 ∨ j < i ∨ sumR E < j) ∧ x = 11)) := by
    rcases hx with h | ⟨h1, h2, h3⟩
    · exact .inl h
    · exact .inr ⟨h1, by omega, h3⟩
  have hn := heap_alloc_new w (.cells #[.int .i32 0, .string ⟨#[]⟩, .int .i64 0, .int .i64 0, .string ⟨#[]⟩, .slice none 0 0] 84)
  obtain ⟨q, rfl⟩ : ∃ q, v = .pointer (some ⟨q, 0, none⟩) := by obtain ⟨q, _, _, e, _⟩ := hE.d; exact ⟨q, e⟩
  clear hE hc hl ht hx hR hjr hI h11 hS
  go_enter Tryz.func39, Tryz.ntmps39
  go_wp2_with fail
  refine c1.mono ?_; rintro r w1 ⟨dv, er, rfl, hsl, hb1⟩
  have b1 := bA.trans (hb1.mono bA.size)
  have hn1 := heap_below hb1 hn
  have hER : dv = .pointer none ∧ er = errV a x := by
    rcases HX.out with ⟨h1, rfl⟩ | ⟨h1, h2, rfl⟩
    · exact hsl.1 h1
    · exact hsl.2.1 h1 h2
  obtain ⟨rfl, rfl⟩ := hER
  obtain ⟨te, ve, hv⟩ : ∃ t y, errV a x = .iface t y := ⟨_, _, rfl⟩
  have HV : Hid (errV a x = .iface te ve) := hv
  rw [hv]
  clear hv hsl hb1 c1 hn HX
  have HB : Hid (Below w.heap.size w w1) := b1
  have e0 : ∀ k, k < 6 → ∃ u, w1.cell? ⟨w.heap.size, k, none⟩ = some u := fun k hk => cell_at hn1 k (by simpa using hk)
  obtain ⟨u0, g0⟩ := e0 0 (by omega)
  obtain ⟨u1, g1⟩ := e0 1 (by omega)
  obtain ⟨u2, g2⟩ := e0 2 (by omega)
  obtain ⟨u3, g3⟩ := e0 3 (by omega)
  obtain ⟨u4, g4⟩ := e0 4 (by omega)
  obtain ⟨u5, g5⟩ := e0 5 (by omega)
  have f0 := frozen_of_heap hn1 0
  have f1 := frozen_of_heap hn1 1
  have f2 := frozen_of_heap hn1 2
  have f3 := frozen_of_heap hn1 3
  have f4 := frozen_of_heap hn1 4
  have f5 := frozen_of_heap hn1 5
  clear e0 hn1 b1
  go_wp2
  refine bodyPost_ret (v := .tuple #[.agg #[.int .i32 0, .string ⟨#[]⟩, .int .i64 0, .int .i64 0, .string ⟨#[]⟩, .slice none 0 0], .iface te ve]) (by simp [results, Tryz.results39, go_sem, g0, g1, g2, g3, g4, g5]) rfl ⟨by rw [HV.out], ?_⟩
  exact (((((HB.out.setCell (p := ⟨w.heap.size, 0, none⟩) (Nat.le_refl _) _).setCell (p := ⟨w.heap.size, 1, none⟩) (Nat.le_refl _) _).setCell (p := ⟨w.heap.size, 2, none⟩) (Nat.le_refl _) _).setCell (p := ⟨w.heap.size, 3, none⟩) (Nat.le_refl _) _).setCell (p := ⟨w.heap.size, 4, none⟩) (Nat.le_refl _) _).setCell (p := ⟨w.heap.size, 5, none⟩) (Nat.le_refl _) _
set_option maxHeartbeats 4000000 in
set_option maxRecDepth 100000 in
theorem at9_yes {B1 B2 : Nat} {I : List Nat} {a : Nat → Addr} (v : Value) (E : List Op5) (k : Nat) (c : C5) (w : World) (hI : ∀ i ∈ IxO, i ∈ I) (h11 : 11 ∈ I) (hS : Std I a w) (hE : DlE w B1 B2 v E) (hc : CanO E) (hl : E.length + 1 ≤ 2097152) (ht : txtS E ≤ 2097152) (h0 : sumB E = 0) (hd : DocL E) (hk : (cellsL E)[k]? = some c) (hkr : (k : Int) < sumR E) :
    Calls Tryz.prog 39 #[v, .int .i64 k] w fun r w' => ∃ d : CV, r = .returned (.tuple #[ceV d, .nilIface]) ∧ (d.1 = c.1 ∧ d.2.1 = c.2.1 ∧ d.2.2.1 = c.2.2.1 ∧ OwnA w' w.heap.size (slV d.2.2.2) c.2.2.2) ∧ Below w.heap.size w w' := by
  have bA : Below w.heap.size w (w.alloc (.cells #[.int .i32 0, .string ⟨#[]⟩, .int .i64 0, .int .i64 0, .string ⟨#[]⟩, .slice none 0 0] 84)) := (Below.refl _ _).alloc (Nat.le_refl _) _
  have hsm := hE.sums
  have hk40 : (k : Int) < 1099511627776 := by have := hE.fits; unfold Fits8 at this; omega
  have hz : IntKind.i64.wrap ((k : Int) + 1) = k + 1 := by rw [IntKind.wrap_i64]; omega
  have c1 := slice8_any v E k (k + 1) _ hI h11 (hS.below bA) (hE.below bA) hc hl ht (by omega) (by omega)
  have hn := heap_alloc_new w (.cells #[.int .i32 0, .string ⟨#[]⟩, .int .i64 0, .int .i64 0, .string ⟨#[]⟩, .slice none 0 0] 84)
  have HO : Hid (∀ L : List Op5, (∀ o ∈ L, Wel o) → units L = ((units E).drop k).take 1 → cellsL L = [c] ∧ sumB L = 0 ∧ sumR L = 1) := fun L h1 h2 => one_cell9 hE.wel hd h1 hk h2
  have HX : Hid (sumB E = 0 ∧ ¬ ((k : Int) < 0 ∨ (k : Int) + 1 < k ∨ sumR E < k + 1)) := ⟨h0, by omega⟩
  obtain ⟨q, rfl⟩ : ∃ q, v = .pointer (some ⟨q, 0, none⟩) := by obtain ⟨q, _, _, e, _⟩ := hE.d; exact ⟨q, e⟩
  clear hE hc hl ht hsm hI h11 hS h0 hd hk hkr hk40
  go_enter Tryz.func39, Tryz.ntmps39
  go_wp2_with fail
  refine c1.mono ?_; rintro r w1 ⟨dv, er, rfl, hsl, hb1⟩
  have b1 := bA.trans (hb1.mono bA.size)
  obtain ⟨rfl, L, C1, C2, hdl, hcl, hul, _, _⟩ := hsl.2.2 HX.out.1 HX.out.2
  rw [show ((k : Int) + 1 - k).toNat = 1 by omega, Int.toNat_natCast] at hul
  obtain ⟨g1, g2, g3⟩ := HO.out L hdl.wel hul
  obtain ⟨q1, rfl⟩ : ∃ q, dv = .pointer (some ⟨q, 0, none⟩) := by obtain ⟨q, _, _, e, _⟩ := hdl.d; exact ⟨q, e⟩
  have c2 := list9_any _ L w1 hdl g2 (by omega) (by rw [g1]; simp)
  rw [g1] at c2
  have HB1 : Hid (Below w.heap.size w w1 ∧ w1.heap[w.heap.size]? = some (.cells #[.int .i32 0, .string ⟨#[]⟩, .int .i64 0, .int .i64 0, .string ⟨#[]⟩, .slice none 0 0] 84 (0, 0))) := ⟨b1, heap_below hb1 hn⟩
  clear hsl hdl hcl hul g1 g2 g3 c1 hn hb1 b1 bA HO HX hz
  go_wp2_with fail
  refine c2.mono ?_; rintro r w2 ⟨lv, rfl, ⟨D, hown, hare⟩, hb2⟩
  obtain ⟨d, rfl⟩ : ∃ d, D = [d] := by
    have := forall2_len hare
    match D, this with
    | [d], _ => exact ⟨d, rfl⟩
  obtain ⟨p, cp, rfl, _, _, hin⟩ := own_rowC hown
  obtain ⟨b, off, rfl, hin2⟩ := hin (by simp)
  obtain ⟨x0, x1, x2, x3, x4, x5⟩ := cellsC_get [d] 0 d rfl
  have c0 := hin2 _ _ x0
  have c1 := hin2 _ _ x1
  have c2' := hin2 _ _ x2
  have c3 := hin2 _ _ x3
  have c4 := hin2 _ _ x4
  have c5 := hin2 _ _ x5
  simp only [Nat.zero_mul, Nat.zero_add, Nat.add_zero] at c0 c1 c2' c3 c4 c5
  have hn2 := heap_below hb2 HB1.out.2
  have HR : Hid ((d.1 = c.1 ∧ d.2.1 = c.2.1 ∧ d.2.2.1 = c.2.2.1 ∧ OwnA w2 w.heap.size (slV d.2.2.2) c.2.2.2) ∧ Below w.heap.size w w2 ∧ w2.heap[w.heap.size]? = some (.cells #[.int .i32 0, .string ⟨#[]⟩, .int .i64 0, .int .i64 0, .string ⟨#[]⟩, .slice none 0 0] 84 (0, 0))) := by
    cases hare with
    | cons h _ => exact ⟨⟨h.1, h.2.1, h.2.2.1, own_weaken h.2.2.2 HB1.out.1.size⟩, HB1.out.1.trans (hb2.mono HB1.out.1.size), hn2⟩
  have e0 : ∀ k, k < 6 → ∃ u, w2.cell? ⟨w.heap.size, k, none⟩ = some u := fun k hk => cell_at hn2 k (by simpa using hk)
  obtain ⟨u0, g0⟩ := e0 0 (by omega)
  obtain ⟨u1, g1⟩ := e0 1 (by omega)
  obtain ⟨u2, g2⟩ := e0 2 (by omega)
  obtain ⟨u3, g3⟩ := e0 3 (by omega)
  obtain ⟨u4, g4⟩ := e0 4 (by omega)
  obtain ⟨u5, g5⟩ := e0 5 (by omega)
  have f0 := frozen_of_heap hn2 0
  have f1 := frozen_of_heap hn2 1
  have f2 := frozen_of_heap hn2 2
  have f3 := frozen_of_heap hn2 3
  have f4 := frozen_of_heap hn2 4
  have f5 := frozen_of_heap hn2 5
  obtain ⟨dk, dt, ⟨dx, dn, du⟩, dp, dl, dcap⟩ := d
  simp only [slV] at c0 c1 c2' c3 c4 c5
  clear e0 hn2 c2 HB1 hb2 hown hare hin hin2 x0 x1 x2 x3 x4 x5
  go_wp2
  refine bodyPost_ret (v := .tuple #[ceV (dk, dt, (dx, dn, du), dp, dl, dcap), .nilIface]) (by simp [results, Tryz.results39, go_sem, g0, g1, g2, g3, g4, g5, ceV, slV]) rfl ⟨_, rfl, ⟨HR.out.1.1, HR.out.1.2.1, HR.out.1.2.2.1, ?_⟩, ?_⟩
  · refine owns_same HR.out.1.2.2.2 fun j hj => ?_
    obtain ⟨_, cur, hcu⟩ := owns_block HR.out.1.2.2.2 j hj
    have hne : j ≠ w.heap.size := fun e => by subst e; rw [HR.out.2.2] at hcu; cases hcu
    have e : ∀ (W : World) (i : Nat) (u : Value), (W.setCell ⟨w.heap.size, i, none⟩ u).heap[j]? = W.heap[j]? := fun W i u => Below.heap_setCell _ _ _ _ hne
    rw [e, e, e, e, e, e]
  · exact (((((HR.out.2.1.setCell (p := ⟨w.heap.size, 0, none⟩) (Nat.le_refl _) _).setCell (p := ⟨w.heap.size, 1, none⟩) (Nat.le_refl _) _).setCell (p := ⟨w.heap.size, 2, none⟩) (Nat.le_refl _) _).setCell (p := ⟨w.heap.size, 3, none⟩) (Nat.le_refl _) _).setCell (p := ⟨w.heap.size, 4, none⟩) (Nat.le_refl _) _).setCell (p := ⟨w.heap.size, 5, none⟩) (Nat.le_refl _) _
end Go.Proofs.YthfpmhnnjjikcaaGreatDoor

/- Of all lists of operations and all places vellumlaw09.CellsList answers true. -/
namespace Go.Proofs.YthfpmhnnjjikcaaGreatDoor
open Go Go.RowKit Go.Lib Go.Shelf
set_option linter.unusedVariables false
def lonN (E : List Op5) : Int := (E.map fun o => (o.t.size : Int) + 10 * o.A.length).sum
theorem lonN_append (E F : List Op5) : lonN (E ++ F) = lonN E + lonN F := by unfold lonN; rw [List.map_append, List.sum_append]
theorem lonN_one (o : Op5) : lonN [o] = (o.t.size : Int) + 10 * o.A.length := by simp [lonN]
theorem lonN_txt (E : List Op5) : (txtS E : Int) ≤ lonN E := by
  induction E with
  | nil => simp [lonN, txtS]
  | cons o r ih =>
    have e : lonN (o :: r) = (o.t.size : Int) + 10 * o.A.length + lonN r := by simp [lonN]
    have e2 : txtS (o :: r) = o.t.size + txtS r := by simp [txtS]
    rw [e, e2]
    omega
set_option maxHeartbeats 2000000 in
set_option maxRecDepth 100000 in
theorem long9_any (v : Value) (E : List Op5) (w : World) (hv : ReO w v E) (hF : FitL E) (hl : E.length ≤ 1048576) :
    Calls Tryz.prog 32 #[v] w fun r w' => r = .returned (.bool (decide (20000 < lonN E))) ∧ Below w.heap.size w w' := by
  obtain ⟨D0, hrow, hre⟩ := hv
  have hDE := forall2_len hre
  obtain ⟨n, hn⟩ : ∃ n, D0.length = n := ⟨_, rfl⟩
  obtain ⟨p, cap, rfl, hcap, hnz, hc⟩ := hrow
  have HC : Hid (∀ (j : Nat) (d : OV), D0[j]? = some d → ∃ b off, p = some ⟨b, off, none⟩ ∧ OpAt w b (off + j * 7) d) := hc
  have HN : Hid (D0.length = n ∧ E.length = n) := ⟨hn, by rw [← hDE, hn]⟩
  have hl : n ≤ 1048576 := by rw [← hn, hDE]; exact hl
  have HF : Hid (FitL E) := hF
  have HE : Hid (∀ (k : Nat) (d : OV), D0[k]? = some d → ∃ e : Op5, E[k]? = some e ∧ d.2.1 = e.t ∧ d.2.2.2.2.2.1 = e.A.length) := fun k d h => by
    obtain ⟨y, hy, r⟩ := forall2_get hre k d h
    obtain ⟨q, c, e1, _⟩ := r.2.2.2.2.row.val
    refine ⟨y, hy, r.2.1, ?_⟩
    simp only [slV, Value.slice.injEq] at e1
    exact e1.2.1
  rw [hn] at hcap ⊢
  clear hc hn hDE hre hnz hF
  go_enter Tryz.func32, Tryz.ntmps32
  go_wp2
  go_loopw [3, 8] (fun s i wr => ∃ (k : Nat) (z : Int), k ≤ n ∧ i = .int .i64 k ∧ s = .int .i64 z ∧ 0 ≤ z ∧ z ≤ 20000000 * k ∧ Hid (lonN (E.take k) = z) ∧ Below w.heap.size w wr) (fun _ i _ => n - (RowKit.intOf i).toNat)
  case atStart => exact ⟨0, 0, Nat.zero_le _, rfl, rfl, by omega, by omega, by show lonN (E.take 0) = 0; simp [lonN], Below.refl _ _⟩
  case round =>
    obtain ⟨k, z, hk, rfl, rfl, hz0, hz1, HZ, hbw⟩ := hrel
    by_cases hlt : k < n
    · have hltI : (k : Int) < n := by omega
      obtain ⟨d, hd⟩ : ∃ d, D0[k]? = some d := ⟨_, List.getElem?_eq_getElem (by rw [HN.out.1]; exact hlt)⟩
      obtain ⟨e, he, het, hel⟩ := HE.out k d hd
      obtain ⟨b, off, rfl, hp⟩ := HC.out k d hd
      obtain ⟨c0, c1, c2, c3, c4, c5, c6⟩ := hp.below hbw
      have hfe := HF.out e (List.mem_of_getElem? he)
      have hT1 := hfe.t
      have hT2 := hfe.n
      have HS : Hid (lonN (E.take (k + 1)) = z + ((e.t.size : Int) + 10 * e.A.length)) := by
        show _ = _
        rw [List.take_add_one, he, Option.toList_some, lonN_append, lonN_one, HZ.out]
      clear hd he hp HZ hfe
      obtain ⟨dk, dt, ⟨dx, dn, du⟩, dc, ds⟩ := d
      obtain ⟨dp, dl, dcap⟩ := ds
      simp only at het hel
      rw [← het, ← hel] at HS
      rw [← het] at hT1
      rw [← hel] at hT2
      clear het hel
      simp only [slV] at c0 c1 c2 c3 c4 c5 c6
      obtain ⟨s, hs⟩ : ∃ s : Int, (dt.size : Int) = s := ⟨_, rfl⟩
      obtain ⟨L, hL⟩ : ∃ s : Int, (dl : Int) = s := ⟨_, rfl⟩
      have hs1 : 0 ≤ s ∧ s ≤ 8388608 := by omega
      have hL1 : 0 ≤ L ∧ L ≤ 1048576 := by omega
      obtain ⟨hs1, hs2⟩ := hs1
      obtain ⟨hL1, hL2⟩ := hL1
      rw [hs, hL] at HS
      have hk2 : (k : Int) ≤ 1048576 := by omega
      go_wp2
      go_roundw
      case rel => exact ⟨k + 1, z + (s + 10 * L), by omega, by go_num, rfl, by omega, by omega, HS.out, hbw.alloc hbw.size _⟩
      case measure => simp [RowKit.intOf]; omega
    · have hltI : ¬ (k : Int) < n := by omega
      have hE : E.take k = E := List.take_of_length_le (by rw [HN.out.2]; omega)
      rw [hE] at HZ
      go_wp2
      go_ret
      exact ⟨by rw [HZ.out]; rfl, hbw⟩

/-- What is known of a delta's list here. -/
structure LC9 (C : List Op5) : Prop where
  good : ∀ o ∈ C, opE o = 0
  fit : ∀ o ∈ C, FitA o
  len : C.length ≤ 1048576
  txt : txtS C ≤ 20000
  can : CanO C
  fits : Fits8 C
theorem LC9.wel {C : List Op5} (h : LC9 C) : ∀ o ∈ C, Wel o := fun o ho => wel_of (h.good o ho)
theorem cellsO_le {o : Op5} (h : opE o = 0) : (cellsOf o).length ≤ o.t.size + 1 := by
  unfold cellsOf
  split
  · rename_i hk
    rcases op_good h with ⟨hi, _⟩ | ⟨_, _, hk3⟩ | ⟨_, _, hk4⟩
    · rw [mkC_len]
      obtain ⟨h1, h2, _⟩ := valid_text o.t hi.utf
      have h3 := encs_len0 h1
      rw [← h2, size_toList] at h3
      omega
    · omega
    · omega
  · show 1 ≤ o.t.size + 1
    omega
theorem cellsL_le : ∀ {C : List Op5}, (∀ o ∈ C, opE o = 0) → (cellsL C).length ≤ txtS C + C.length
  | [], _ => by show 0 ≤ _; omega
  | o :: r, h => by
    have h1 := cellsO_le (h o (List.mem_cons_self ..))
    have h2 := cellsL_le (C := r) fun x hx => h x (List.mem_cons_of_mem _ hx)
    have e : cellsL (o :: r) = cellsOf o ++ cellsL r := rfl
    rw [e, List.length_append, txtS_cons, List.length_cons]
    omega
theorem LC9.cel {C : List Op5} (h : LC9 C) : (cellsL C).length ≤ 1100000 := by have := cellsL_le h.good; have := h.txt; have := h.len; omega
theorem docC9_le (C : List Op5) : (docC9 C).length ≤ (cellsL C).length := by unfold docC9; split <;> simp
theorem cells_attr9 {C : List Op5} (h : ∀ o ∈ C, FitA o) : ∀ e ∈ cellsL C, e.2.2.2.length ≤ 4194304 := fun e he => by
  obtain ⟨o, ho, hc⟩ := List.mem_flatMap.1 he
  have hn := (h o ho).n
  unfold cellsOf at hc
  split at hc
  · unfold mkC at hc
    obtain ⟨r, _, rfl⟩ := List.mem_map.1 hc
    show o.A.length ≤ _
    omega
  · rw [List.mem_singleton.1 hc]
    show o.A.length ≤ _
    omega
theorem doc_sumR9 {C : List Op5} (hw : ∀ o ∈ C, Wel o) (hd : DocL C) : sumR C = (cellsL C).length := by
  rw [sumR_units hw, units_doc hd]
  unfold resU
  rw [List.countP_map]
  exact congrArg _ (List.countP_eq_length.2 fun c _ => rfl)
theorem lc9_of {A : List Op5} (h0 : (ofE 0 0 A).2 = 0) (hF : FitL A) (hl : A.length ≤ 1048576) (hq : decide (20000 < lonN A) = false) : LC9 (canonL A) := by
  have ht := lonN_txt A
  have h1 := of_decide_eq_false hq
  have ok : OkE A := okE_of h0 hF (by omega) (by omega)
  obtain ⟨k1, k2, k3⟩ := canon_ok ok
  exact ⟨k1.good, k1.fit, by omega, by omega, CanO.of ok.wel, k1.base, k1.res⟩
theorem rowC_nil9 (w : World) : RowC w (.slice none 0 0) [] := ⟨none, 0, rfl, Nat.le_refl _, fun _ => rfl, fun h => absurd rfl h⟩
theorem Hid.mk8n {P : Prop} (h : P) : Hid P := h
set_option maxHeartbeats 2000000 in
set_option maxRecDepth 100000 in
theorem list9_no {I : List Nat} {a : Nat → Addr} {B1 B2 : Nat} (v : Value) (E : List Op5) (w : World) (hI : ∀ i ∈ IxO, i ∈ I) (hS : Std I a w) (h : DlE w B1 B2 v E) (h0 : sumB E ≠ 0) :
    Calls Tryz.prog 34 #[v] w fun r w' => r = .returned (.tuple #[.slice none 0 0, errV a 8]) ∧ Below w.heap.size w w' := by
  have cD := doc8_any v E w h
  rw [show (sumB E == 0) = false by simpa using h0] at cD
  have g1 : w.cell? ⟨2, 0, none⟩ = some (errV a 8) := hS.er.cell 8 (hI 8 (by decide))
  obtain ⟨q, rfl⟩ : ∃ q, v = .pointer (some ⟨q, 0, none⟩) := by obtain ⟨q, _, _, e, _⟩ := h.d; exact ⟨q, e⟩
  clear h h0 hS hI
  refine (callsIn_wide (n := 15)).1 ?_
  refine callsIn_of_wp_marks Tryz.func34 rfl trivial ?_ rfl
  simp only [Tryz.ntmps34, List.size_toArray, List.length_cons, List.length_nil, Nat.reduceAdd, Nat.reduceSub, Array.replicate_succ, Array.replicate_zero, List.push_toArray, List.append_toArray, List.nil_append, List.cons_append]
  rw [wpIn_wide]
  go_wp2_with fail
  refine cD.mono ?_; rintro r w1 ⟨rfl, hb1⟩
  have g2 : w1.cell? ⟨2, 0, none⟩ = some (errV a 8) := (hb1.cell (lt_of_cell g1)).trans g1
  clear cD g1
  go_wp2
  go_quiet (fail)
  go_wp2
  exact ⟨_, by simp [results, Tryz.results34, go_sem], rfl, below_drewN hb1 _⟩
set_option maxHeartbeats 16000000 in
set_option maxRecDepth 100000 in
theorem cellsList_any {I : List Nat} {a : Nat → Addr} (v0 : Value) (x1 x2 : Int) (A0 : List Op5) (w : World) (hJ : ∀ i ∈ IR8, i ∈ I) (hS : Std I a w) (hN : Sent a w) (r0 : ReO w v0 A0) (f0 : FitL A0) (l0 : A0.length ≤ 1048576) (hx1 : -9223372036854775808 ≤ x1 ∧ x1 ≤ 9223372036854775807) (hx2 : -9223372036854775808 ≤ x2 ∧ x2 ≤ 9223372036854775807) :
    Calls Tryz.prog 7 #[v0, .int .i64 x1, .int .i64 x2] w fun r w' => r = .returned (.bool true) ∧ Below w.heap.size w w' := by
  obtain ⟨hI, h11⟩ := ir8 hJ
  have cF := lives9_any w hI hS
  have cL : Hid (∀ W, Below w.heap.size w W → Calls Tryz.prog 32 #[v0] W fun r w' => r = .returned (.bool (decide (20000 < lonN A0))) ∧ Below W.heap.size W w') := fun W hW => long9_any v0 A0 W (r0.below hW) f0 l0
  have cM : Hid (txtS A0 ≤ 20000 → ∀ W, Below w.heap.size w W → Calls Tryz.prog 33 #[v0] W fun r w' => ∃ dv, r = .returned dv ∧ ((ofE 0 0 A0).2 = 0 → DelV w' W.heap.size W.heap.size dv (canonL A0)) ∧ ((ofE 0 0 A0).2 ≠ 0 → dv = .pointer none) ∧ Below W.heap.size W w') := fun ht W hW => make_any v0 A0 W hI (hS.below hW) (r0.below hW) f0 l0 (by omega)
  have HS : Hid (∀ W, Below w.heap.size w W → Std I a W ∧ Sent a W) := fun W hW => ⟨hS.below hW, hN.below hW⟩
  have HI : Hid ((∀ i ∈ IxO, i ∈ I) ∧ 11 ∈ I) := ⟨hI, h11⟩
  have HF : Hid (FitL A0 ∧ A0.length ≤ 1048576) := ⟨f0, l0⟩
  obtain ⟨D0, ⟨pv, kv, rfl, _, _, _⟩, hre⟩ := r0
  obtain ⟨nv, hnv⟩ : ∃ n, D0.length = n := ⟨_, rfl⟩
  rw [hnv] at cL cM ⊢
  obtain ⟨q, hq⟩ : ∃ q, decide (20000 < lonN A0) = q := ⟨_, rfl⟩
  rw [hq] at cL
  have HQ : Hid (decide (20000 < lonN A0) = q) := hq
  clear hre hnv hS hN hI h11 hJ hq f0 l0
  go_enter Tryz.func7, Tryz.ntmps7
  go_wp2_with fail
  refine cF.mono ?_; rintro r w1 ⟨rfl, hb1⟩
  have c1 := cL.out _ hb1
  clear cF cL
  go_wp2_with fail
  refine c1.mono ?_; rintro r w2 ⟨rfl, hb2'⟩
  have hb2 := hb1.trans (hb2'.mono hb1.size)
  clear c1 hb2' hb1
  cases q with
  | true =>
    go_wp2
    go_ret
    exact ⟨rfl, hb2⟩
  | false =>
    have c2 := cM.out (by have h1 := lonN_txt A0; have h2 := of_decide_eq_false HQ.out; omega) _ hb2
    clear cM
    go_wp2_with fail
    refine c2.mono ?_; rintro r w3 ⟨dv, rfl, hd1, hd2, hb3'⟩
    have hb3 := hb2.trans (hb3'.mono hb2.size)
    clear c2 hb3' hb2
    by_cases he : (ofE 0 0 A0).2 = 0
    · have hdel := hd1 he
      have hlc := lc9_of he HF.out.1 HF.out.2 HQ.out
      clear hd1 hd2 he HQ HF
      obtain ⟨C, hC⟩ : ∃ C, canonL A0 = C := ⟨_, rfl⟩
      rw [hC] at hdel hlc
      clear hC
      have HC : Hid (LC9 C) := hlc
      obtain ⟨qd, rfl⟩ : ∃ q, dv = .pointer (some ⟨q, 0, none⟩) := by obtain ⟨q, _, _, e, _⟩ := hdel; exact ⟨q, e⟩
      have HX3 : Hid (DlE w3 0 0 (.pointer (some ⟨qd, 0, none⟩)) C) := ⟨delV_low hdel (Nat.zero_le _) (Nat.zero_le _), hlc.good, hlc.fit, by have := hlc.len; omega, by have := hlc.txt; omega, hlc.fits⟩
      obtain ⟨nC, hnC⟩ : ∃ n, C.length = n := ⟨_, rfl⟩
      obtain ⟨m, hm⟩ : ∃ n, (cellsL C).length = n := ⟨_, rfl⟩
      have HM : Hid ((cellsL C).length = m ∧ m ≤ 1100000 ∧ C.length = nC ∧ nC ≤ 1048576) := ⟨hm, by have := hlc.cel; omega, hnC, by have := hlc.len; omega⟩
      clear hdel hlc hnC hm
      by_cases h0 : sumB C = 0
      · have HD : Hid (sumB C = 0 ∧ docB C = true ∧ DocL C ∧ sumR C = m ∧ docC9 C = cellsL C ∧ ∀ o ∈ C, Ins o) := by
          have hd : docB C = true := (docB_sum HC.out.wel).symm ▸ h0
          have hdl := docB_iff.1 hd
          exact ⟨h0, hd, hdl, by rw [doc_sumR9 HC.out.wel hdl, HM.out.1], docC9_yes h0, doc_base9 HC.out.good h0⟩
        have zm0 : ((m : Int) != m) = false := bne_self_eq_false _
        clear h0
        have c1 := ops_any _ C w3 HX3.out.d HC.out.good (fun o ho => by have := (HC.out.fit o ho).n; omega) (by have := HM.out; omega)
        go_wp2_with fail
        refine c1.mono ?_; rintro r w1 ⟨lv, rfl, hco, b1⟩
        have hb1 := hb3.trans (b1.mono hb3.size)
        have X_1 := Hid.mk8n (HX3.out.below b1)
        have hcr := hco.re
        obtain ⟨pl, cl, rfl⟩ : ∃ p c, lv = .slice p nC c := by obtain ⟨D, ⟨p, c, h, _⟩, hre⟩ := hcr; rw [forall2_len hre, HM.out.2.2.1] at h; exact ⟨p, c, h⟩
        have L_1 := Hid.mk8n (hcr)
        clear c1 b1 hb3 HX3 hco hcr
        have c2 := list9_any _ C w1 X_1.out HD.out.1 (by rw [HD.out.2.2.2.1]; have := HM.out; omega) (by have := HM.out; omega)
        go_wp2_with fail
        refine c2.mono ?_; rintro r w2 ⟨av, rfl, ⟨D1, hown, hare⟩, b2⟩
        have hb2 := hb1.trans (b2.mono hb1.size)
        have X_2 := Hid.mk8n (X_1.out.below b2)
        have L_2 := Hid.mk8n (L_1.out.below b2)
        have hD1 : D1.length = m := by rw [forall2_len hare, HM.out.1]
        obtain ⟨pa, ca, rfl⟩ : ∃ p c, av = .slice p m c := by obtain ⟨p, c, h, _⟩ := own_rowC hown; rw [hD1] at h; exact ⟨p, c, h⟩
        have AR_2 := Hid.mk8n (own_rowC hown)
        have AA_2 := Hid.mk8n (hare.are)
        clear c2 b2 hb1 X_1 L_1 hown hare hD1
        have c3 := refList9_any _ C w2 L_2.out (fun _ => HD.out.2.2.2.2.2) (fun o ho => by have := txtS_mem ho; have := HC.out.txt; omega) (by have := HM.out; omega) (by have := HM.out; omega)
        go_wp2_with fail
        refine c3.mono ?_; rintro r w3 ⟨bv, nn, rfl, hlis, b3⟩
        have hb3 := hb2.trans (b3.mono hb2.size)
        have X_3 := Hid.mk8n (X_2.out.below b3)
        have L_3 := Hid.mk8n (L_2.out.below b3)
        have AR_3 := Hid.mk8n (AR_2.out.below b3)
        have AA_3 := Hid.mk8n (AA_2.out.below b3)
        obtain ⟨rfl, D2, hown, hare⟩ := hlis.1 HD.out.2.1
        have hD1 : D2.length = m := by rw [forall2_len hare, HM.out.1]
        obtain ⟨pb, cb, rfl⟩ : ∃ p c, bv = .slice p m c := by obtain ⟨p, c, h, _⟩ := own_rowC hown; rw [hD1] at h; exact ⟨p, c, h⟩
        have BR_3 := Hid.mk8n (own_rowC hown)
        have BA_3 := Hid.mk8n (hare)
        clear c3 b3 hb2 X_2 L_2 AR_2 AA_2 hlis hown hare hD1
        have c4 := num_of (HS.out w3 hb3).2 0 (by decide)
        rw [show errOf a 0 = .nilIface from rfl] at c4
        go_wp2_with fail
        refine c4.mono ?_; rintro r w4 ⟨rfl, b4⟩
        have hb4 := hb3.trans (b4.mono hb3.size)
        have X_4 := Hid.mk8n (X_3.out.below b4)
        have L_4 := Hid.mk8n (L_3.out.below b4)
        have AR_4 := Hid.mk8n (AR_3.out.below b4)
        have AA_4 := Hid.mk8n (AA_3.out.below b4)
        have BR_4 := Hid.mk8n (BR_3.out.below b4)
        have BA_4 := Hid.mk8n (BA_3.out.below b4)
        clear c4 b4 hb3 X_3 L_3 AR_3 AA_3 BR_3 BA_3
        have c5 := sameL9_any _ _ D1 D2 (cellsL C) (cellsL C) w4 AR_4.out BR_4.out AA_4.out BA_4.out (by have := HM.out; omega) (by have := HM.out; omega) (cells_attr9 HC.out.fit) (cells_attr9 HC.out.fit)
        rw [decide_eq_true rfl] at c5
        go_wp2_with fail
        refine c5.mono ?_; rintro r w5 ⟨rfl, b5⟩
        have hb5 := hb4.trans (b5.mono hb4.size)
        have X_5 := Hid.mk8n (X_4.out.below b5)
        have L_5 := Hid.mk8n (L_4.out.below b5)
        have AR_5 := Hid.mk8n (AR_4.out.below b5)
        have AA_5 := Hid.mk8n (AA_4.out.below b5)
        have BR_5 := Hid.mk8n (BR_4.out.below b5)
        have BA_5 := Hid.mk8n (BA_4.out.below b5)
        clear c5 b5 hb4 X_4 L_4 AR_4 AA_4 BR_4 BA_4
        have c6 := result8_any _ C w5 X_5.out
        rw [HD.out.2.2.2.1] at c6
        go_wp2_with fail
        refine c6.mono ?_; rintro r w6 ⟨rfl, b6⟩
        have hb6 := hb5.trans (b6.mono hb5.size)
        have X_6 := Hid.mk8n (X_5.out.below b6)
        have L_6 := Hid.mk8n (L_5.out.below b6)
        have AR_6 := Hid.mk8n (AR_5.out.below b6)
        have AA_6 := Hid.mk8n (AA_5.out.below b6)
        have BR_6 := Hid.mk8n (BR_5.out.below b6)
        have BA_6 := Hid.mk8n (BA_5.out.below b6)
        clear c6 b6 hb5 X_5 L_5 AR_5 AA_5 BR_5 BA_5
        have c7 := told9_any _ C m w6 X_6.out (by have := docC9_le C; have := HM.out; omega) (by have := docC9_le C; have := HM.out; omega) (by have := HM.out; omega) (by have := HM.out; omega)
        go_wp2_with fail
        refine c7.mono ?_; rintro r w7 ⟨tv, rfl, ⟨D3, hown, hare, -⟩, b7⟩
        have hb7 := hb6.trans (b7.mono hb6.size)
        have X_7 := Hid.mk8n (X_6.out.below b7)
        have L_7 := Hid.mk8n (L_6.out.below b7)
        have AR_7 := Hid.mk8n (AR_6.out.below b7)
        have AA_7 := Hid.mk8n (AA_6.out.below b7)
        have BR_7 := Hid.mk8n (BR_6.out.below b7)
        have BA_7 := Hid.mk8n (BA_6.out.below b7)
        rw [HD.out.2.2.2.2.1] at hare
        have hD1 : D3.length = m := by rw [forall2_len hare, HM.out.1]
        obtain ⟨pc, cc, rfl⟩ : ∃ p c, tv = .slice p m c := by obtain ⟨p, c, h, _⟩ := own_rowC hown; rw [hD1] at h; exact ⟨p, c, h⟩
        have CR_7 := Hid.mk8n (own_rowC hown)
        have CA_7 := Hid.mk8n (hare.are)
        clear c7 b7 hb6 X_6 L_6 AR_6 AA_6 BR_6 BA_6 hown hare hD1
        have c8 := sameL9_any _ _ D3 D2 (cellsL C) (cellsL C) w7 CR_7.out BR_7.out CA_7.out BA_7.out (by have := HM.out; omega) (by have := HM.out; omega) (cells_attr9 HC.out.fit) (cells_attr9 HC.out.fit)
        rw [decide_eq_true rfl] at c8
        go_wp2_with fail
        refine c8.mono ?_; rintro r w8 ⟨rfl, b8⟩
        have hb8 := hb7.trans (b8.mono hb7.size)
        have X_8 := Hid.mk8n (X_7.out.below b8)
        have L_8 := Hid.mk8n (L_7.out.below b8)
        have AR_8 := Hid.mk8n (AR_7.out.below b8)
        have AA_8 := Hid.mk8n (AA_7.out.below b8)
        have BR_8 := Hid.mk8n (BR_7.out.below b8)
        have BA_8 := Hid.mk8n (BA_7.out.below b8)
        have CR_8 := Hid.mk8n (CR_7.out.below b8)
        have CA_8 := Hid.mk8n (CA_7.out.below b8)
        clear c8 b8 hb7 X_7 L_7 AR_7 AA_7 BR_7 BA_7 CR_7 CA_7
        by_cases hr : 0 ≤ x1 ∧ x1 < m
        · obtain ⟨k, rfl⟩ : ∃ k : Nat, x1 = k := ⟨x1.toNat, by omega⟩
          have hkm : k < m := by omega
          have hltI : (k : Int) < m := hr.2
          have hk0 : ¬ (k : Int) < 0 := by omega
          have hkg : ¬ (k : Int) ≥ m := by omega
          have hz0 : (0 : Int) ≤ (k : Int) := by omega
          obtain ⟨c, hc⟩ : ∃ c, (cellsL C)[k]? = some c := ⟨_, List.getElem?_eq_getElem (by rw [HM.out.1]; exact hkm)⟩
          have HK : Hid ((cellsL C)[k]? = some c ∧ (k : Int) < m) := ⟨hc, hltI⟩
          clear hc hr
          have cy9 := at9_yes _ C k c w8 HI.out.1 HI.out.2 (HS.out w8 hb8).1 X_8.out HC.out.can (by have := HM.out; omega) (by have := HC.out.txt; omega) HD.out.1 HD.out.2.2.1 HK.out.1 (by rw [HD.out.2.2.2.1]; exact HK.out.2)
          go_wp2_with fail
          refine cy9.mono ?_; rintro r wy9 ⟨d9, rfl, ⟨y1, y2, y3, y4⟩, by9⟩
          have hby9 := hb8.trans (by9.mono hb8.size)
          have X_y9 := Hid.mk8n (X_8.out.below by9)
          have L_y9 := Hid.mk8n (L_8.out.below by9)
          have AR_y9 := Hid.mk8n (AR_8.out.below by9)
          have AA_y9 := Hid.mk8n (AA_8.out.below by9)
          have BR_y9 := Hid.mk8n (BR_8.out.below by9)
          have BA_y9 := Hid.mk8n (BA_8.out.below by9)
          have CR_y9 := Hid.mk8n (CR_8.out.below by9)
          have CA_y9 := Hid.mk8n (CA_8.out.below by9)
          have HY : Hid (d9.1 = c.1 ∧ d9.2.1 = c.2.1 ∧ d9.2.2.1 = c.2.2.1) := ⟨y1, y2, y3⟩
          have R9_y9 := Hid.mk8n (own_RN y4)
          clear cy9 by9 hb8 X_8 L_8 AR_8 AA_8 BR_8 BA_8 CR_8 CA_8 y1 y2 y3 y4
          obtain ⟨d2, hd2⟩ : ∃ d, D2[k]? = some d := ⟨_, List.getElem?_eq_getElem (by rw [forall2_len BA_y9.out, HM.out.1]; exact hkm)⟩
          obtain ⟨c', hc', hr2⟩ := forall2_get BA_y9.out k d2 hd2
          obtain rfl : c' = c := Option.some.inj (hc'.symm.trans HK.out.1)
          have hem : c'.2.2.2.length ≤ 4194304 := cells_attr9 HC.out.fit c' (List.mem_of_getElem? hc')
          have e9 : ceV d9 = ceP c' (slV d9.2.2.2) := ce_of (w := wy9) ⟨HY.out.1, HY.out.2.1, HY.out.2.2, R9_y9.out⟩
          have e2 : ceV d2 = ceP c' (slV d2.2.2.2) := ce_of (w := wy9) hr2
          obtain ⟨W9, hW9⟩ : ∃ W, W = (wy9).alloc (.cells (ceC d9) 84) := ⟨_, rfl⟩
          have bA : Below (wy9).heap.size wy9 W9 := by rw [hW9]; exact (Below.refl _ _).alloc (Nat.le_refl _) _
          have hnw : W9.heap[(wy9).heap.size]? = some (.cells (ceC d9) 84 (0, 0)) := by rw [hW9]; exact heap_alloc_new _ _
          have hb9 := hby9.trans (bA.mono hby9.size)
          have cSt : ∀ W, Below W9.heap.size W9 W → Calls Tryz.prog 41 #[.pointer (some ⟨qd, 0, none⟩), .slice pb m cb, .int .i64 x2] W fun r w' => r = .returned (.bool true) ∧ Below W9.heap.size W9 w' := fun W hW => from_below hW (stops9_any _ _ C D2 x2 W ((X_y9.out.below bA).below hW) ((BR_y9.out.below bA).below hW) (by rw [HD.out.2.2.2.2.1]; exact (BA_y9.out.below bA).below hW) (by have := docC9_le C; have := HM.out; omega) (by rw [HD.out.2.2.2.2.1]; exact cells_attr9 HC.out.fit) (by have := HM.out; omega))
          have cSa : ∀ W, Below W9.heap.size W9 W → Calls Tryz.prog 40 #[ceV d9, ceV d2] W fun r w' => r = .returned (.bool true) ∧ Below W9.heap.size W9 w' := fun W hW => from_below hW (by
            have h := sameR9_any c' c' (slV d9.2.2.2) (slV d2.2.2.2) W ((R9_y9.out.below bA).below hW).row ((hr2.2.2.2.below bA).below hW).row hem hem
            rw [decide_eq_true rfl] at h
            rw [e9, e2]
            exact h)
          obtain ⟨pb', cb', epb, hcb', -, hin⟩ := id BR_y9.out
          simp only [Value.slice.injEq] at epb
          obtain ⟨rfl, -, rfl⟩ := epb
          have hD2 : D2 ≠ [] := by intro e; rw [e] at hd2; simp at hd2
          obtain ⟨bb, off, rfl, hinq⟩ := hin hD2
          have hmcb : m ≤ cb := by rw [forall2_len BA_y9.out, HM.out.1] at hcb'; exact hcb'
          obtain ⟨x0, x1, x2', x3, x4, x5⟩ := cellsC_get D2 k d2 hd2
          have c0 := (hinq.below bA) _ _ x0
          have c1 := (hinq.below bA) _ _ x1
          have c2 := (hinq.below bA) _ _ x2'
          have c3 := (hinq.below bA) _ _ x3
          have c4 := (hinq.below bA) _ _ x4
          have c5 := (hinq.below bA) _ _ x5
          simp only [← Nat.add_assoc] at c0 c1 c2 c3 c4 c5
          obtain ⟨B9, hB9⟩ : ∃ B, B = (wy9).heap.size := ⟨_, rfl⟩
          rw [← hB9] at hnw
          have b0 : W9.cell? ⟨B9, 0, none⟩ = some (.int .i32 d9.1) := by rw [cell_of_heap hnw]; rfl
          have b1 : W9.cell? ⟨B9, 1, none⟩ = some (.string d9.2.1) := by rw [cell_of_heap hnw]; rfl
          have b2 : W9.cell? ⟨B9, 2, none⟩ = some (.int .i64 d9.2.2.1.1) := by rw [cell_of_heap hnw]; rfl
          have b3 : W9.cell? ⟨B9, 3, none⟩ = some (.int .i64 d9.2.2.1.2.1) := by rw [cell_of_heap hnw]; rfl
          have b4 : W9.cell? ⟨B9, 4, none⟩ = some (.string d9.2.2.1.2.2) := by rw [cell_of_heap hnw]; rfl
          have b5 : W9.cell? ⟨B9, 5, none⟩ = some (slV d9.2.2.2) := by rw [cell_of_heap hnw]; rfl
          clear e9 e2 hr2 hem hc' hd2 hnw hin hinq hD2 x0 x1 x2' x3 x4 x5 hcb' bA
          obtain ⟨dk, dt, ⟨dx, dn, du⟩, dp, dl, dcap⟩ := d9
          obtain ⟨fk, ft, ⟨fx, fn, fu⟩, fp, fl, fcap⟩ := d2
          simp only [slV, ceV] at c0 c1 c2 c3 c4 c5 b0 b1 b2 b3 b4 b5 cSa
          have HU : Hid (∀ W, Below W9.heap.size W9 W → ((W.cell? ⟨B9, 0, none⟩ = some (.int .i32 dk) ∧ W.cell? ⟨B9, 1, none⟩ = some (.string dt) ∧ W.cell? ⟨B9, 2, none⟩ = some (.int .i64 dx) ∧ W.cell? ⟨B9, 3, none⟩ = some (.int .i64 dn) ∧ W.cell? ⟨B9, 4, none⟩ = some (.string du) ∧ W.cell? ⟨B9, 5, none⟩ = some (.slice dp dl dcap)) ∧ W.cell? ⟨bb, off + k * 6, none⟩ = some (.int .i32 fk) ∧ W.cell? ⟨bb, off + k * 6 + 1, none⟩ = some (.string ft) ∧ W.cell? ⟨bb, off + k * 6 + 2, none⟩ = some (.int .i64 fx) ∧ W.cell? ⟨bb, off + k * 6 + 3, none⟩ = some (.int .i64 fn) ∧ W.cell? ⟨bb, off + k * 6 + 4, none⟩ = some (.string fu) ∧ W.cell? ⟨bb, off + k * 6 + 5, none⟩ = some (.slice fp fl fcap))) := fun W hW => ⟨⟨(hW.cell (lt_of_cell b0)).trans b0, (hW.cell (lt_of_cell b1)).trans b1, (hW.cell (lt_of_cell b2)).trans b2, (hW.cell (lt_of_cell b3)).trans b3, (hW.cell (lt_of_cell b4)).trans b4, (hW.cell (lt_of_cell b5)).trans b5⟩, (hW.cell (lt_of_cell c0)).trans c0, (hW.cell (lt_of_cell c1)).trans c1, (hW.cell (lt_of_cell c2)).trans c2, (hW.cell (lt_of_cell c3)).trans c3, (hW.cell (lt_of_cell c4)).trans c4, (hW.cell (lt_of_cell c5)).trans c5⟩
          have mD := HU.out W9.drew (Below.refl _ _).drew
          have bD : Below W9.heap.size W9 W9.drew := (Below.refl _ _).drew
          have H9 : Hid (Below w.heap.size w W9) := hb9
          clear b0 b1 b2 b3 b4 b5 c0 c1 c2 c3 c4 c5 hb9
          go_wp2_with fail
          rw [← hB9]
          simp only [ceC, slV] at hW9
          rw [← hW9]
          clear hW9 hB9
          go_region_held3 (fun w' => ((w'.cell? ⟨B9, 0, none⟩ = some (.int .i32 dk) ∧ w'.cell? ⟨B9, 1, none⟩ = some (.string dt) ∧ w'.cell? ⟨B9, 2, none⟩ = some (.int .i64 dx) ∧ w'.cell? ⟨B9, 3, none⟩ = some (.int .i64 dn) ∧ w'.cell? ⟨B9, 4, none⟩ = some (.string du) ∧ w'.cell? ⟨B9, 5, none⟩ = some (.slice dp dl dcap)) ∧ w'.cell? ⟨bb, off + k * 6, none⟩ = some (.int .i32 fk) ∧ w'.cell? ⟨bb, off + k * 6 + 1, none⟩ = some (.string ft) ∧ w'.cell? ⟨bb, off + k * 6 + 2, none⟩ = some (.int .i64 fx) ∧ w'.cell? ⟨bb, off + k * 6 + 3, none⟩ = some (.int .i64 fn) ∧ w'.cell? ⟨bb, off + k * 6 + 4, none⟩ = some (.string fu) ∧ w'.cell? ⟨bb, off + k * 6 + 5, none⟩ = some (.slice fp fl fcap)) ∧ Below W9.heap.size W9 w')
            (exact ⟨by first | (with_reducible assumption) | (simp [*]; done), by first | (with_reducible assumption) | exact (Below.refl _ _).drew⟩)
            (first
              | (go_at_call 40; refine (cSa _ ?_).mono ?_; (· first | (with_reducible assumption) | (apply And.right; with_reducible assumption)); rintro r w5 ⟨rfl, b3⟩; have mm := HU.out _ b3)
              | (go_at_call 41; refine (cSt _ ?_).mono ?_; (· first | (with_reducible assumption) | (apply And.right; with_reducible assumption)); rintro r w5 ⟨rfl, b3⟩; have mm := HU.out _ b3))
          have b10 := H9.out.trans (b3.mono H9.out.size)
          go_wp2
          go_ret
          exact ⟨rfl, b10⟩
        · have hrr : x1 < 0 ∨ (m : Int) ≤ x1 := by omega
          obtain ⟨te, ve, hv⟩ : ∃ t y, errV a 11 = .iface t y := ⟨_, _, rfl⟩
          have heq := eql_same a 11
          rw [hv] at heq
          clear hr
          have cn9 := at9_no _ C x1 11 w8 HI.out.1 HI.out.2 (HS.out w8 hb8).1 X_8.out HC.out.can (by have := HM.out; omega) (by have := HC.out.txt; omega) hx1 (.inr ⟨HD.out.1, (by rw [HD.out.2.2.2.1]; exact hrr), rfl⟩)
          rw [hv] at cn9
          go_wp2_with fail
          refine cn9.mono ?_; rintro r wn9 ⟨rfl, bn9⟩
          have hbn9 := hb8.trans (bn9.mono hb8.size)
          have X_n9 := Hid.mk8n (X_8.out.below bn9)
          have L_n9 := Hid.mk8n (L_8.out.below bn9)
          have AR_n9 := Hid.mk8n (AR_8.out.below bn9)
          have AA_n9 := Hid.mk8n (AA_8.out.below bn9)
          have BR_n9 := Hid.mk8n (BR_8.out.below bn9)
          have BA_n9 := Hid.mk8n (BA_8.out.below bn9)
          have CR_n9 := Hid.mk8n (CR_8.out.below bn9)
          have CA_n9 := Hid.mk8n (CA_8.out.below bn9)
          clear cn9 bn9 hb8 X_8 L_8 AR_8 AA_8 BR_8 BA_8 CR_8 CA_8
          obtain ⟨W9, hW9⟩ : ∃ W, W = (wn9).alloc (.cells #[.int .i32 0, .string ⟨#[]⟩, .int .i64 0, .int .i64 0, .string ⟨#[]⟩, .slice none 0 0] 84) := ⟨_, rfl⟩
          obtain ⟨B9, hB9⟩ : ∃ B, B = (wn9).heap.size := ⟨_, rfl⟩
          have bA : Below (wn9).heap.size wn9 W9 := by rw [hW9]; exact (Below.refl _ _).alloc (Nat.le_refl _) _
          have hnw : W9.heap[B9]? = some (.cells #[.int .i32 0, .string ⟨#[]⟩, .int .i64 0, .int .i64 0, .string ⟨#[]⟩, .slice none 0 0] 84 (0, 0)) := by rw [hW9, hB9]; exact heap_alloc_new _ _
          have hb9 := hbn9.trans (bA.mono hbn9.size)
          have cSt : Hid (∀ W, Below W9.heap.size W9 W → Calls Tryz.prog 41 #[.pointer (some ⟨qd, 0, none⟩), .slice pb m cb, .int .i64 x2] W fun r w' => r = .returned (.bool true) ∧ Below W9.heap.size W9 w') := fun W hW => from_below hW (stops9_any _ _ C D2 x2 W ((X_n9.out.below bA).below hW) ((BR_n9.out.below bA).below hW) (by rw [HD.out.2.2.2.2.1]; exact (BA_n9.out.below bA).below hW) (by have := docC9_le C; have := HM.out; omega) (by rw [HD.out.2.2.2.2.1]; exact cells_attr9 HC.out.fit) (by have := HM.out; omega))
          have cSa : Hid (∀ W, Below W9.heap.size W9 W → Calls Tryz.prog 40 #[.agg #[.int .i32 0, .string ⟨#[]⟩, .int .i64 0, .int .i64 0, .string ⟨#[]⟩, .slice none 0 0], .agg #[.int .i32 0, .string ⟨#[]⟩, .int .i64 0, .int .i64 0, .string ⟨#[]⟩, .slice none 0 0]] W fun r w' => r = .returned (.bool true) ∧ Below W9.heap.size W9 w') := fun W hW => from_below hW (by
            have h := sameR9_any (0, ⟨#[]⟩, z0, []) (0, ⟨#[]⟩, z0, []) (.slice none 0 0) (.slice none 0 0) W (RN.nil W).row (RN.nil W).row (by decide) (by decide)
            rw [decide_eq_true rfl] at h
            exact h)
          have b0 : W9.cell? ⟨B9, 0, none⟩ = some (.int .i32 0) := by rw [cell_of_heap hnw]; rfl
          have b1 : W9.cell? ⟨B9, 1, none⟩ = some (.string ⟨#[]⟩) := by rw [cell_of_heap hnw]; rfl
          have b2 : W9.cell? ⟨B9, 2, none⟩ = some (.int .i64 0) := by rw [cell_of_heap hnw]; rfl
          have b3 : W9.cell? ⟨B9, 3, none⟩ = some (.int .i64 0) := by rw [cell_of_heap hnw]; rfl
          have b4 : W9.cell? ⟨B9, 4, none⟩ = some (.string ⟨#[]⟩) := by rw [cell_of_heap hnw]; rfl
          have b5 : W9.cell? ⟨B9, 5, none⟩ = some (.slice none 0 0) := by rw [cell_of_heap hnw]; rfl
          have H9 : Hid (Below w.heap.size w W9 ∧ W9.heap[B9]? = some (.cells #[.int .i32 0, .string ⟨#[]⟩, .int .i64 0, .int .i64 0, .string ⟨#[]⟩, .slice none 0 0] 84 (0, 0))) := ⟨hb9, hnw⟩
          clear hnw bA hb9
          go_upto_region 17 with fail
          rw [← hB9, ← hW9]
          clear hB9 hW9
          have g9 : W9.cell? ⟨0, 0, none⟩ = some (.iface te ve) := by rw [← hv]; exact (HS.out W9 H9.out.1).1.er.cell 11 HI.out.2
          clear hv hx1
          by_cases h9 : x1 < 0
          · clear hrr
            go_wp2_with fail
            refine (cSa.out W9 (Below.refl _ _)).mono ?_; rintro r wS ⟨rfl, bS⟩
            have dSt := cSt.out wS bS
            clear cSa cSt
            go_wp2_with fail
            refine dSt.mono ?_; rintro r wT ⟨rfl, bT⟩
            have b10 := H9.out.1.trans (bT.mono H9.out.1.size)
            clear dSt
            go_wp2
            go_ret
            exact ⟨rfl, b10⟩
          · have h9' : x1 ≥ m := by omega
            clear hrr
            go_wp2_with fail
            refine (cSa.out W9 (Below.refl _ _)).mono ?_; rintro r wS ⟨rfl, bS⟩
            have dSt := cSt.out wS bS
            clear cSa cSt
            go_wp2_with fail
            refine dSt.mono ?_; rintro r wT ⟨rfl, bT⟩
            have b10 := H9.out.1.trans (bT.mono H9.out.1.size)
            clear dSt
            go_wp2
            go_ret
            exact ⟨rfl, b10⟩
      · have HD : Hid (sumB C ≠ 0 ∧ docB C = false ∧ docC9 C = [] ∧ 0 < sumB C) := by
          refine ⟨h0, ?_, if_neg h0, ?_⟩
          · cases h : docB C with
            | false => rfl
            | true => exact absurd ((docB_sum HC.out.wel) ▸ h) h0
          · have := (sums_nn HC.out.wel).1; omega
        obtain ⟨te, ve, hv⟩ : ∃ t y, errV a 8 = .iface t y := ⟨_, _, rfl⟩
        clear h0
        have cd1 := ops_any _ C w3 HX3.out.d HC.out.good (fun o ho => by have := (HC.out.fit o ho).n; omega) (by have := HM.out; omega)
        go_wp2_with fail
        refine cd1.mono ?_; rintro r wd1 ⟨lv, rfl, hco, bd1⟩
        have hbd1 := hb3.trans (bd1.mono hb3.size)
        have X_d1 := Hid.mk8n (HX3.out.below bd1)
        have hcr := hco.re
        obtain ⟨pl, cl, rfl⟩ : ∃ p c, lv = .slice p nC c := by obtain ⟨D, ⟨p, c, h, _⟩, hre⟩ := hcr; rw [forall2_len hre, HM.out.2.2.1] at h; exact ⟨p, c, h⟩
        have L_d1 := Hid.mk8n (hcr)
        clear cd1 bd1 hb3 HX3 hco hcr
        have cd2 := list9_no _ C wd1 HI.out.1 (HS.out wd1 hbd1).1 X_d1.out HD.out.1
        rw [hv] at cd2
        go_wp2_with fail
        refine cd2.mono ?_; rintro r wd2 ⟨rfl, bd2⟩
        have hbd2 := hbd1.trans (bd2.mono hbd1.size)
        have X_d2 := Hid.mk8n (X_d1.out.below bd2)
        have L_d2 := Hid.mk8n (L_d1.out.below bd2)
        clear cd2 bd2 hbd1 X_d1 L_d1
        have cd3 := refList9_any _ C wd2 L_d2.out (fun h => by rw [HD.out.2.1] at h; cases h) (fun o ho => by have := txtS_mem ho; have := HC.out.txt; omega) (by have := HM.out; omega) (by have := HM.out; omega)
        go_wp2_with fail
        refine cd3.mono ?_; rintro r wd3 ⟨bv, nn, rfl, hlis, bd3⟩
        have hbd3 := hbd2.trans (bd3.mono hbd2.size)
        have X_d3 := Hid.mk8n (X_d2.out.below bd3)
        have L_d3 := Hid.mk8n (L_d2.out.below bd3)
        obtain ⟨rfl, rfl⟩ := hlis.2 HD.out.2.1
        clear cd3 bd3 hbd2 X_d2 L_d2 hlis
        have cd4 := num_of (HS.out wd3 hbd3).2 9 (by decide)
        rw [show errOf a 9 = errV a 8 from rfl, hv] at cd4
        go_wp2_with fail
        refine cd4.mono ?_; rintro r wd4 ⟨rfl, bd4⟩
        have hbd4 := hbd3.trans (bd4.mono hbd3.size)
        have X_d4 := Hid.mk8n (X_d3.out.below bd4)
        have L_d4 := Hid.mk8n (L_d3.out.below bd4)
        clear cd4 bd4 hbd3 X_d3 L_d3
        have cd5 := sameL9_any (.slice none 0 0) (.slice none 0 0) [] [] [] [] wd4 (rowC_nil9 _) (rowC_nil9 _) .nil .nil (by decide) (by decide) (fun e h => by cases h) (fun e h => by cases h)
        rw [decide_eq_true rfl] at cd5
        go_wp2_with fail
        refine cd5.mono ?_; rintro r wd5 ⟨rfl, bd5⟩
        have hbd5 := hbd4.trans (bd5.mono hbd4.size)
        have X_d5 := Hid.mk8n (X_d4.out.below bd5)
        have L_d5 := Hid.mk8n (L_d4.out.below bd5)
        clear cd5 bd5 hbd4 X_d4 L_d4
        have cd6 := told9_any _ C 0 wd5 X_d5.out (by rw [HD.out.2.2.1]; decide) (by rw [HD.out.2.2.1]; decide) (by decide) (by have := HM.out; omega)
        go_wp2_with fail
        refine cd6.mono ?_; rintro r wd6 ⟨tv, rfl, ⟨D3, hown, hare, -⟩, bd6⟩
        have hbd6 := hbd5.trans (bd6.mono hbd5.size)
        have X_d6 := Hid.mk8n (X_d5.out.below bd6)
        have L_d6 := Hid.mk8n (L_d5.out.below bd6)
        rw [HD.out.2.2.1] at hare
        have hD1 : D3 = [] := List.eq_nil_of_length_eq_zero (forall2_len hare)
        rw [hD1] at hown
        obtain ⟨pc, cc, rfl⟩ : ∃ p c, tv = .slice p 0 c := by obtain ⟨p, c, h, _⟩ := own_rowC hown; exact ⟨p, c, h⟩
        have CR_d6 := Hid.mk8n (own_rowC hown)
        clear cd6 bd6 hbd5 X_d5 L_d5 hown hare hD1
        have cd7 := sameL9_any _ (.slice none 0 0) [] [] [] [] wd6 CR_d6.out (rowC_nil9 _) .nil .nil (by decide) (by decide) (fun e h => by cases h) (fun e h => by cases h)
        rw [decide_eq_true rfl] at cd7
        go_wp2_with fail
        refine cd7.mono ?_; rintro r wd7 ⟨rfl, bd7⟩
        have hbd7 := hbd6.trans (bd7.mono hbd6.size)
        have X_d7 := Hid.mk8n (X_d6.out.below bd7)
        have L_d7 := Hid.mk8n (L_d6.out.below bd7)
        have CR_d7 := Hid.mk8n (CR_d6.out.below bd7)
        clear cd7 bd7 hbd6 X_d6 L_d6 CR_d6
        have cd8 := at9_no _ C x1 8 wd7 HI.out.1 HI.out.2 (HS.out wd7 hbd7).1 X_d7.out HC.out.can (by have := HM.out; omega) (by have := HC.out.txt; omega) hx1 (.inl ⟨HD.out.2.2.2, rfl⟩)
        rw [hv] at cd8
        go_wp2_with fail
        refine cd8.mono ?_; rintro r wd8 ⟨rfl, bd8⟩
        have hbd8 := hbd7.trans (bd8.mono hbd7.size)
        have X_d8 := Hid.mk8n (X_d7.out.below bd8)
        have L_d8 := Hid.mk8n (L_d7.out.below bd8)
        have CR_d8 := Hid.mk8n (CR_d7.out.below bd8)
        clear cd8 bd8 hbd7 X_d7 L_d7 CR_d7
        obtain ⟨W9, hW9⟩ : ∃ W, W = (wd8).alloc (.cells #[.int .i32 0, .string ⟨#[]⟩, .int .i64 0, .int .i64 0, .string ⟨#[]⟩, .slice none 0 0] 84) := ⟨_, rfl⟩
        obtain ⟨B9, hB9⟩ : ∃ B, B = (wd8).heap.size := ⟨_, rfl⟩
        have bA : Below (wd8).heap.size wd8 W9 := by rw [hW9]; exact (Below.refl _ _).alloc (Nat.le_refl _) _
        have hnw : W9.heap[B9]? = some (.cells #[.int .i32 0, .string ⟨#[]⟩, .int .i64 0, .int .i64 0, .string ⟨#[]⟩, .slice none 0 0] 84 (0, 0)) := by rw [hW9, hB9]; exact heap_alloc_new _ _
        have hb9 := hbd8.trans (bA.mono hbd8.size)
        have cSt : Hid (∀ W, Below W9.heap.size W9 W → Calls Tryz.prog 41 #[.pointer (some ⟨qd, 0, none⟩), .slice none 0 0, .int .i64 x2] W fun r w' => r = .returned (.bool true) ∧ Below W9.heap.size W9 w') := fun W hW => from_below hW (stops9_any _ _ C [] x2 W ((X_d8.out.below bA).below hW) (rowC_nil9 _) (by rw [HD.out.2.2.1]; exact .nil) (by rw [HD.out.2.2.1]; decide) (by rw [HD.out.2.2.1]; intro e h; cases h) (by have := HM.out; omega))
        have cSa : Hid (∀ W, Below W9.heap.size W9 W → Calls Tryz.prog 40 #[.agg #[.int .i32 0, .string ⟨#[]⟩, .int .i64 0, .int .i64 0, .string ⟨#[]⟩, .slice none 0 0], .agg #[.int .i32 0, .string ⟨#[]⟩, .int .i64 0, .int .i64 0, .string ⟨#[]⟩, .slice none 0 0]] W fun r w' => r = .returned (.bool true) ∧ Below W9.heap.size W9 w') := fun W hW => from_below hW (by
          have h := sameR9_any (0, ⟨#[]⟩, z0, []) (0, ⟨#[]⟩, z0, []) (.slice none 0 0) (.slice none 0 0) W (RN.nil W).row (RN.nil W).row (by decide) (by decide)
          rw [decide_eq_true rfl] at h
          exact h)
        have b0 : W9.cell? ⟨B9, 0, none⟩ = some (.int .i32 0) := by rw [cell_of_heap hnw]; rfl
        have b1 : W9.cell? ⟨B9, 1, none⟩ = some (.string ⟨#[]⟩) := by rw [cell_of_heap hnw]; rfl
        have b2 : W9.cell? ⟨B9, 2, none⟩ = some (.int .i64 0) := by rw [cell_of_heap hnw]; rfl
        have b3 : W9.cell? ⟨B9, 3, none⟩ = some (.int .i64 0) := by rw [cell_of_heap hnw]; rfl
        have b4 : W9.cell? ⟨B9, 4, none⟩ = some (.string ⟨#[]⟩) := by rw [cell_of_heap hnw]; rfl
        have b5 : W9.cell? ⟨B9, 5, none⟩ = some (.slice none 0 0) := by rw [cell_of_heap hnw]; rfl
        have H9 : Hid (Below w.heap.size w W9 ∧ W9.heap[B9]? = some (.cells #[.int .i32 0, .string ⟨#[]⟩, .int .i64 0, .int .i64 0, .string ⟨#[]⟩, .slice none 0 0] 84 (0, 0))) := ⟨hb9, hnw⟩
        clear hnw bA hb9
        go_upto_region 17 with fail
        rw [← hB9, ← hW9]
        clear hB9 hW9
        have cNu := num_of (HS.out W9 H9.out.1).2 9 (by decide)
        rw [show errOf a 9 = errV a 8 from rfl, hv] at cNu
        clear hv hx1 b0 b1 b2 b3 b4 b5
        go_wp2_with fail
        refine cNu.mono ?_; rintro r wN ⟨rfl, bN⟩
        have hnw := heap_below bN H9.out.2
        have b0 : wN.cell? ⟨B9, 0, none⟩ = some (.int .i32 0) := by rw [cell_of_heap hnw]; rfl
        have b1 : wN.cell? ⟨B9, 1, none⟩ = some (.string ⟨#[]⟩) := by rw [cell_of_heap hnw]; rfl
        have b2 : wN.cell? ⟨B9, 2, none⟩ = some (.int .i64 0) := by rw [cell_of_heap hnw]; rfl
        have b3 : wN.cell? ⟨B9, 3, none⟩ = some (.int .i64 0) := by rw [cell_of_heap hnw]; rfl
        have b4 : wN.cell? ⟨B9, 4, none⟩ = some (.string ⟨#[]⟩) := by rw [cell_of_heap hnw]; rfl
        have b5 : wN.cell? ⟨B9, 5, none⟩ = some (.slice none 0 0) := by rw [cell_of_heap hnw]; rfl
        have HBN : Hid (Below W9.heap.size W9 wN) := bN
        clear cNu hnw bN
        go_wp2_with fail
        refine (cSa.out wN HBN.out).mono ?_; rintro r wS ⟨rfl, bS⟩
        have dSt := cSt.out wS bS
        clear cSa cSt
        go_wp2_with fail
        refine dSt.mono ?_; rintro r wT ⟨rfl, bT⟩
        have b10 := H9.out.1.trans (bT.mono H9.out.1.size)
        clear dSt
        go_wp2
        go_ret
        exact ⟨rfl, b10⟩
    · obtain rfl := hd2 he
      clear hd1 hd2
      go_wp2
      go_ret
      exact ⟨rfl, hb3⟩
end Go.Proofs.YthfpmhnnjjikcaaGreatDoor
