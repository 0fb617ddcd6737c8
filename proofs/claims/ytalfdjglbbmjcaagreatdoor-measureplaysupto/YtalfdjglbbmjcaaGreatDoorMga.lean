/- ops.Of: operations as pieces. A slice of operations among the arguments: what its reading gives the walk. ops: lengths of pieces, their sums; ops.Lengths. ops: what a piece bears; plain retains; what may follow what. ops.Canonical. What vellumref04.SameCell and SameCells answer: whether the cells are the same. What content.Cut answers. What content.Cut answers of a text that can be cut. What content.Join answers. content.textCells: the cells of a text. What the values' methods answer: Kind, Plain; how values of the interface compare. What content.Cells and content.Newlines answer. vellumlaw04.lives. Joins of inserts, purely; Join at all operations. Deltas unit by unit: what operations are, cell by cell and gap by gap; canonical lists are told apart by it. -/
import Derived.Test.YtalfdjglbbmjcaaGreatDoorQc
import Derived.Test.YtalfdjglbbmjcaaGreatDoorOpo
import Derived.Stop.Asserts
import Derived.Test.YtalfdjglbbmjcaaGreatDoorSm
import Derived.Test.YtalfdjglbbmjcaaGreatDoorCc
import Derived.Deep.RegionHeld3
import Derived.Test.YtalfdjglbbmjcaaGreatDoorCq
import Derived.BigRegion
import Derived.Deep.DeepCutAuto
import Derived.Laws.MakeOwn
import Derived.Test.YtalfdjglbbmjcaaGreatDoorVs
import Derived.Test.YtalfdjglbbmjcaaGreatDoorVf

/- ops.Of: operations as pieces. -/
namespace Go.Proofs.YtalfdjglbbmjcaaGreatDoor
open Go Go.RowKit Go.Lib
set_option linter.unusedVariables false

abbrev FitL (E : List Op5) : Prop := ∀ o ∈ E, Fit o
theorem opV_of {w : World} {d : OV} {e : Op5} (h : d.1 = e.k ∧ d.2.1 = e.t ∧ d.2.2.1 = e.v ∧ d.2.2.2.1 = e.c ∧ RN w (slV d.2.2.2.2) e.A) : ovV d = opV e (slV d.2.2.2.2) := by
  obtain ⟨k, t, ⟨x, n, u⟩, c, s⟩ := d
  obtain ⟨k', t', ⟨x', n', u'⟩, c', A⟩ := e
  obtain ⟨h1, h2, h3, h4, _⟩ := h
  simp only at h1 h2 h3 h4
  subst h1; subst h2; subst h4
  cases h3
  rfl
set_option maxHeartbeats 2000000 in
set_option maxRecDepth 100000 in
theorem of_any {I : List Nat} {a : Nat → Addr} (v : Value) (E : List Op5) (w : World) (hI : ∀ i ∈ IxO, i ∈ I) (hS : Std I a w) (hv : ReO w v E) (hF : FitL E) (hl : E.length ≤ 1048576) :
    Calls Tryz.prog 89 #[v] w fun r w' => ∃ v', r = .returned (.tuple #[v', .int .i64 (badP E).1, errOf a (badP E).2]) ∧ ((badP E).2 = 0 → ∃ P, OwnI w' w.heap.size v' P ∧ PieD w' w.heap.size P E) ∧ ((badP E).2 ≠ 0 → v' = .slice none 0 0) ∧ Below w.heap.size w w' := by
  obtain ⟨D0, hrow, hre⟩ := hv
  have hDE := forall2_len hre
  obtain ⟨n, hn⟩ : ∃ n, D0.length = n := ⟨_, rfl⟩
  obtain ⟨p, cap, rfl, hcap, hnz, hc⟩ := hrow
  have HC : Hid (∀ (j : Nat) (d : OV), D0[j]? = some d → ∃ b off, p = some ⟨b, off, none⟩ ∧ OpAt w b (off + j * 7) d) := hc
  have HN : Hid (D0.length = n ∧ E.length = n) := ⟨hn, by rw [← hDE, hn]⟩
  have hl : n ≤ 1048576 := by rw [← hn, hDE]; exact hl
  have HK : Hid (∀ W (k : Nat) d e, Below w.heap.size w W → D0[k]? = some d → E[k]? = some e → (opE e = 0 → Calls Tryz.prog 123 #[ovV d] W fun r w' => ∃ v', r = .returned (.tuple #[pieceQ e v', .nilIface]) ∧ OwnA w' W.heap.size v' e.A ∧ Below W.heap.size W w') ∧ (∀ x, opE e = x + 1 → Calls Tryz.prog 123 #[ovV d] W fun r w' => r = .returned (.tuple #[.nilIface, errV a x]) ∧ Below W.heap.size W w')) := fun W k d e hW h1 h2 => by
    obtain ⟨y, hy, r1⟩ := forall2_get hre k d h1
    obtain rfl : y = e := Option.some.inj (hy.symm.trans h2)
    have fy := hF y (List.mem_of_getElem? hy)
    rw [opV_of r1]
    exact ⟨fun h => piece_ok y _ W hI (hS.below hW) (r1.2.2.2.2.below hW) fy h, fun x h => piece_no y _ W hI (hS.below hW) (r1.2.2.2.2.below hW) fy x h⟩
  have HE : Hid (∀ k d, D0[k]? = some d → ∃ e, E[k]? = some e) := fun k d h => by obtain ⟨y, hy, _⟩ := forall2_get hre k d h; exact ⟨y, hy⟩
  rw [hn] at hcap ⊢
  clear hc hn hDE hre hnz hF hS
  go_enter Tryz.func89, Tryz.ntmps89
  go_wp2_with (at_make; refine wpList_make_pi _ rfl _ _ rfl w.heap.size .i64 .i64 _ n rfl rfl rfl (by omega) (Nat.le_refl _) ?_; intro v0 w1 hown hgr; have hb1 : Below w.heap.size w w1 := (Below.refl _ _).grown hgr (Nat.le_refl _) (fun k hk => by cases hk); clear hgr)
  go_loopw [5, 15] (fun al i wr => ∃ (k : Nat) (P : List Value), k ≤ n ∧ i = .int .i64 k ∧ P.length = k ∧ OwnI wr w.heap.size al P ∧ PieD wr w.heap.size P (E.take k) ∧ (∀ x ∈ E.take k, opE x = 0) ∧ Below w.heap.size w wr) (fun _ i _ => n - (RowKit.intOf i).toNat)
  case atStart => exact ⟨0, [], Nat.zero_le _, rfl, rfl, hown, .nil, fun x hx => by simp at hx, hb1⟩
  case round =>
    clear hown hb1
    obtain ⟨k, P, hk, rfl, hP, hown, hpi, hgood, hbw⟩ := hrel
    by_cases hlt : k < n
    · have hltI : (k : Int) < n := by omega
      obtain ⟨d, hd⟩ : ∃ d, D0[k]? = some d := ⟨_, List.getElem?_eq_getElem (by rw [HN.out.1]; exact hlt)⟩
      obtain ⟨e, he⟩ := HE.out k d hd
      obtain ⟨b, off, rfl, hp⟩ := HC.out k d hd
      obtain ⟨c0, c1, c2, c3, c4, c5, c6⟩ := hp.below hbw
      have ba : Below w.heap.size w (wr.alloc (.cells (ovC d) 33)) := hbw.alloc hbw.size _
      have bw : Below wr.heap.size wr (wr.alloc (.cells (ovC d) 33)) := (Below.refl _ _).alloc (Nat.le_refl _) _
      obtain ⟨cg, cb⟩ := HK.out _ k d e ba hd he
      have HO : Hid (OwnI wr w.heap.size u5 P ∧ PieD wr w.heap.size P (E.take k)) := ⟨hown, hpi⟩
      have HG : Hid (∀ x ∈ E.take k, opE x = 0) := hgood
      have HT : Hid (E.take (k + 1) = E.take k ++ [e] ∧ E[k]? = some e) := by refine ⟨?_, he⟩; rw [List.take_add_one, he]; rfl
      have HPk : Hid (P.length = k) := hP
      have hge : Hid (∀ j, u5.ownBlock = some j → w.heap.size ≤ j) := fun j hj => (owns_block hown j hj).1
      have hwz : Hid (w.heap.size ≤ wr.heap.size) := hbw.size
      clear hp hd he hown hpi hgood hP
      obtain ⟨dk, dt, ⟨dx, dn, du⟩, dc, ds⟩ := d
      obtain ⟨dp, dl, dcap⟩ := ds
      simp only [slV, ovC, ovV] at c0 c1 c2 c3 c4 c5 c6 cg cb ba bw
      by_cases hg : opE e = 0
      · have cG := cg hg
        clear cg cb
        go_wp2_with fail
        refine cG.mono ?_; rintro r w5 ⟨v', rfl, own5, hb5⟩
        have b5 := ba.trans (hb5.mono (Nat.le_trans ba.size (Nat.le_refl _)))
        have bw5 := bw.trans (hb5.mono bw.size)
        obtain ⟨u, x, hux⟩ := pieceQ_if e v'
        have HX : Hid (pieceQ e v' = .iface u x) := hux
        rw [hux]
        have ba6 : Below w5.heap.size w5 (w5.alloc (.cells #[.iface u x] 56)) := (Below.refl _ _).alloc (Nat.le_refl _) _
        have HO6 : Hid (OwnI (w5.alloc (.cells #[.iface u x] 56)) w.heap.size u5 P) := owns_below (owns_below HO.out.1 bw5) ba6
        have own6 : OwnA (w5.alloc (.cells #[.iface u x] 56)) w.heap.size v' e.A := own_weaken (owns_below own5 ba6) ba.size
        have HD6 : Hid (PieD (w5.alloc (.cells #[.iface u x] 56)) w.heap.size (P ++ [.iface u x]) (E.take (k + 1))) := by
          show PieD _ _ _ _
          rw [HT.out.1]
          exact forall2_append ((HO.out.2.below bw5).below ba6) (.cons ⟨v', HX.out.symm, own6⟩ .nil)
        have b6 := b5.trans (ba6.mono b5.size)
        have hu6 : (w5.alloc (.cells #[.iface u x] 56)).cell? ⟨w5.heap.size, 0, none⟩ = some (.iface u x) := by simp
        have hPl : P.length ≤ 1048677 := by rw [HPk.out]; omega
        have HG' : Hid (∀ x ∈ E.take (k + 1), opE x = 0) := fun x hx => by
          rw [HT.out.1, List.mem_append] at hx
          rcases hx with hx | hx
          · exact HG.out x hx
          · rw [List.mem_singleton.1 hx]; exact hg
        clear own5 hb5 own6 bw5 b5 hux hg cG c0 c1 c2 c3 c4 c5 c6 ba bw ba6 HX HT HO
        go_wp2_with (at_builtin; refine wpList_append_pi rfl (.tmp 29) (.tmp 31) rfl w.heap.size u5 P rfl HO6.out w5.heap.size 1 (.iface u x) rfl hu6 rfl hPl b6.size ?_; intro v8 w8 own8 gr8; have hk8 := keepA_grownI HO6.out gr8; have b8 := b6.grown gr8 b6.size (fun j hj => hge.out j hj); have HO8 : Hid (OwnI w8 w.heap.size v8 (P ++ [.iface u x])) := own8; have HD8 : Hid (PieD w8 w.heap.size (P ++ [.iface u x]) (E.take (k + 1))) := HD6.out.keep hk8; clear own8 gr8 hk8 HO6 HD6 hu6)
        go_roundw
        case rel => exact ⟨k + 1, _, by omega, by go_num, by simp [HPk.out], HO8.out, HD8.out, HG'.out, b8⟩
        case measure => simp [RowKit.intOf]; omega
      · obtain ⟨x, hx⟩ : ∃ x, opE e = x + 1 := ⟨opE e - 1, by omega⟩
        have cB := cb x hx
        have HB : Hid (badP E = (k, x + 1)) := by
          have := bad_at HT.out.2 HG.out hg
          rw [hx] at this; exact this
        clear cg cb hx hg HT HG
        go_wp2_with fail
        refine cB.mono ?_; rintro r w5 ⟨rfl, hb5⟩
        have b5 := ba.trans (hb5.mono (Nat.le_trans ba.size (Nat.le_refl _)))
        clear cB c0 c1 c2 c3 c4 c5 c6 ba bw hb5
        go_wp2
        go_ret3
        exact ⟨.slice none 0 0, by rw [HB.out]; rfl, fun h => (by rw [HB.out] at h; cases h), fun _ => rfl, b5⟩
    · have hltI : ¬ (k : Int) < n := by omega
      have hkn : k = n := by omega
      have hE : E.take k = E := List.take_of_length_le (by rw [HN.out.2]; omega)
      rw [hE] at hpi hgood
      have HB : Hid (badP E = (0, 0)) := bad_none hgood
      have HO : Hid (OwnI wr w.heap.size u5 P ∧ PieD wr w.heap.size P E) := ⟨hown, hpi⟩
      clear hkn hE hown hpi hgood hP
      go_wp2
      go_ret3
      exact ⟨u5, by rw [HB.out]; rfl, fun _ => ⟨P, HO.out⟩, fun h => absurd (by rw [HB.out]) h, hbw⟩
end Go.Proofs.YtalfdjglbbmjcaaGreatDoor

/- A slice of operations among the arguments: what its reading gives the walk. -/
namespace Go.Proofs.YtalfdjglbbmjcaaGreatDoor
open Go Go.RowKit Go.Lib Go.ChangeShapes Go.WideShapes Go.ChangeAt Go.Joins
set_option linter.unusedVariables false

theorem bulk_pos {H : Type} (d : DataW H) : 1 ≤ Rows.uptoBulk d := by
  cases d with
  | lit l => cases l <;> simp only [Rows.uptoBulk] <;> omega
  | nil => simp only [Rows.uptoBulk]; omega
  | ptr d => simp only [Rows.uptoBulk]; omega
  | slice a b => simp only [Rows.uptoBulk]; omega
  | agg p => simp only [Rows.uptoBulk]; omega
  | iface t d => simp only [Rows.uptoBulk]; omega
  | map e => simp only [Rows.uptoBulk]; omega
  | held h => simp only [Rows.uptoBulk]; omega
theorem rn_sl {w : World} {s : Value} {A : List A2} (h : RN w s A) : ∃ x : Sl, s = slV x := by
  obtain ⟨p, c, rfl, _⟩ := h.row.val
  exact ⟨(p, _, c), rfl⟩
theorem forall2_maps {α β γ : Type} {R : β → γ → Prop} : ∀ (l : List α) (f : α → β) (g : α → γ), (∀ a ∈ l, R (f a) (g a)) → All2 R (l.map f) (l.map g)
  | [], f, g, _ => .nil
  | a :: r, f, g, h => .cons (h a (List.mem_cons_self ..)) (forall2_maps r f g fun x hx => h x (List.mem_cons_of_mem _ hx))
set_option maxRecDepth 100000 in
theorem open_ops {H : Type} {enc : TypeId × Value → H} {W : World} {base : Nat} {v : Value} {d : DataW H} {p : List MemPlace}
    (hok : Value.okWide Tryz.prog W .any base 26 v) (h : DataW.Trod enc Tryz.prog W 0 (fun _ => true) true 26 v d p) :
    ∃ E : List Op5, ReO W v E ∧ (∀ x ∈ p, x.block < W.heap.size) ∧ E.length + 1 ≤ Rows.uptoBulk d ∧ ∀ e ∈ E, e.t.size ≤ Rows.uptoBulk d ∧ e.v.2.2.size ≤ Rows.uptoBulk d ∧ e.A.length ≤ Rows.uptoBulk d ∧ ∀ q ∈ e.A, q.1.size ≤ Rows.uptoBulk d ∧ q.2.2.2.size ≤ Rows.uptoBulk d := by
  obtain ⟨a0, len0, cap0, rfl⟩ := okWide_slice Tryz.underlying26 hok
  obtain ⟨fuel, hf⟩ := h
  rcases Go.Deep.open_slice Tryz.underlying26 hf with ⟨hcs, hx⟩ | ⟨a, len, cap, m, n, D, Pl, hcs, _, hlc, _, hm, hx, hel⟩
  · have hcs' : a0 = none ∧ len0 = 0 ∧ cap0 = 0 := by simpa [Value.cells] using hcs
    obtain ⟨rfl, rfl, rfl⟩ := hcs'
    simp only [Prod.mk.injEq] at hx
    obtain ⟨rfl, rfl⟩ := hx
    exact ⟨[], ⟨[], RowO.nil _, .nil⟩, by simp, Nat.le_refl _, by simp⟩
  · have hcs' : a0 = some a ∧ len0 = len ∧ cap0 = cap := by simpa [Value.cells] using hcs
    obtain ⟨rfl, rfl, rfl⟩ := hcs'
    simp only [Prod.mk.injEq] at hx
    obtain ⟨rfl, rfl⟩ := hx
    simp only [if_true] at hm
    subst hm
    have each : ∀ i, i < m → ∃ q : Op5 × Sl, (W.cell? (a.add (i * 7)) = some (.int .i64 q.1.k) ∧ W.cell? ((a.add (i * 7)).add 1) = some (.string q.1.t) ∧ W.cell? ((a.add (i * 7)).add 2) = some (.int .i64 q.1.v.1) ∧ W.cell? ((a.add (i * 7)).add 3) = some (.int .i64 q.1.v.2.1) ∧ W.cell? ((a.add (i * 7)).add 4) = some (.string q.1.v.2.2) ∧ W.cell? ((a.add (i * 7)).add 5) = some (.int .i64 q.1.c) ∧ W.cell? ((a.add (i * 7)).add 6) = some (slV q.2)) ∧ RN W (slV q.2) q.1.A ∧ (∀ x ∈ Pl i, x.block < W.heap.size) ∧ q.1.t.size ≤ Rows.uptoBulk (D i) ∧ q.1.v.2.2.size ≤ Rows.uptoBulk (D i) ∧ q.1.A.length ≤ Rows.uptoBulk (D i) ∧ ∀ x ∈ q.1.A, x.1.size ≤ Rows.uptoBulk (D i) ∧ x.2.2.2.size ≤ Rows.uptoBulk (D i) := by
      intro i hi
      obtain ⟨cs', h1, h2⟩ := hel i hi
      rw [cellsOp] at h1
      obtain ⟨_, hlen, hcell⟩ := World.cells?_some h1
      obtain ⟨o, s, hcs, hR, hP, b1, b2, b3, b4⟩ := trod_op hlen h2
      obtain ⟨x, rfl⟩ := rn_sl hR
      subst hcs
      have q0 := hcell 0 (by simp)
      have q1 := hcell 1 (by simp)
      have q2 := hcell 2 (by simp)
      have q3 := hcell 3 (by simp)
      have q4 := hcell 4 (by simp)
      have q5 := hcell 5 (by simp)
      have q6 := hcell 6 (by simp)
      exact ⟨(o, x), ⟨by simpa [Addr.add, opC] using q0, by simpa [Addr.add, opC] using q1, by simpa [Addr.add, opC] using q2, by simpa [Addr.add, opC] using q3, by simpa [Addr.add, opC] using q4, by simpa [Addr.add, opC] using q5, by simpa [Addr.add, opC] using q6⟩, hR, hP, b1, b2, b3, b4⟩
    haveI : Inhabited (Op5 × Sl) := ⟨(opZ, (none, 0, 0))⟩
    obtain ⟨q, hq⟩ := Go.Deep.choose_lt each
    have hb : ∀ i, i < len0 → Rows.uptoBulk (D i) ≤ Rows.uptoBulk (DataW.slice ((List.range len0).map D) ((List.range (m - len0)).map fun j => D (len0 + j))) := fun i hi => by
      have := bulk_mem ((List.range len0).map D) (D i) (List.mem_map.2 ⟨i, List.mem_range.2 hi, rfl⟩)
      simp only [Rows.uptoBulk]; omega
    have hspot : ∀ i, i < m → ∃ b off, a = ⟨b, off, none⟩ := fun i hi => by
      obtain ⟨b, off, spot⟩ := a
      have h00 := (hq 0 (by omega)).1.1
      have : spot = none := by simpa [Addr.add] using World.cell?_spot h00
      subst this
      exact ⟨b, off, rfl⟩
    refine ⟨(List.range len0).map fun i => (q i).1, ⟨(List.range len0).map fun i => ((q i).1.k, (q i).1.t, (q i).1.v, (q i).1.c, (q i).2), ⟨some a, m, by simp, by simpa using hlc, fun h => (by cases h), fun j d hd => ?_⟩, ?_⟩, fun x hx => ?_, ?_, fun e he => ?_⟩
    · have hj : j < len0 := by have := (List.getElem?_eq_some_iff.1 hd).1; simpa using this
      obtain rfl : _ = d := by simpa [hj] using hd
      obtain ⟨b, off, rfl⟩ := hspot j (by omega)
      obtain ⟨c0, c1, c2, c3, c4, c5, c6⟩ := (hq j (by omega)).1
      simp only [Addr.add_lit] at c0 c1 c2 c3 c4 c5 c6
      exact ⟨b, off, rfl, c0, c1, c2, c3, c4, c5, c6⟩
    · exact forall2_maps _ _ _ fun i hi => ⟨rfl, rfl, rfl, rfl, (hq i (by have := List.mem_range.1 hi; omega)).2.1⟩
    · rcases List.mem_append.1 hx with hx | hx
      · obtain ⟨i, hi, rfl⟩ := MemPlace.mem_row.1 hx
        rcases Nat.eq_zero_or_pos m with h0 | h0
        · rw [h0, Nat.zero_mul] at hi; omega
        have := lt_of_cell (hq 0 h0).1.1
        show a.block < W.heap.size
        simpa [Addr.add] using this
      · obtain ⟨i, hi, hx⟩ := List.mem_flatMap.1 hx
        exact (hq i (List.mem_range.1 hi)).2.2.1 x hx
    · have := bulk_len ((List.range len0).map D) (fun x _ => bulk_pos x)
      simp only [List.length_map, List.length_range] at this ⊢
      simp only [Rows.uptoBulk]; omega
    · obtain ⟨i, hi, rfl⟩ := List.mem_map.1 he
      have hi' : i < len0 := List.mem_range.1 hi
      have h1 := hb i hi'
      obtain ⟨_, _, _, b1, b2, b3, b4⟩ := hq i (by omega)
      exact ⟨by omega, by omega, by omega, fun x hx => by have := b4 x hx; omega⟩
theorem fitL_bulk {E : List Op5} {n : Nat} (hn : n ≤ 1048576) (h : ∀ e ∈ E, e.t.size ≤ n ∧ e.v.2.2.size ≤ n ∧ e.A.length ≤ n ∧ ∀ q ∈ e.A, q.1.size ≤ n ∧ q.2.2.2.size ≤ n) : FitL E := fun e he => fit_bulk hn (h e he)
end Go.Proofs.YtalfdjglbbmjcaaGreatDoor

/- ops: lengths of pieces, their sums; ops.Lengths. -/
namespace Go.Proofs.YtalfdjglbbmjcaaGreatDoor
open Go Go.RowKit Go.Lib
set_option linter.unusedVariables false

def baseO (o : Op5) : Int := if o.k = 3 ∨ o.k = 4 then len5 o else 0
def resO (o : Op5) : Int := if o.k = 4 then 0 else len5 o
/-- The sums of lengths, asked at each operation. -/
def sumL : Int → Int → List Op5 → Int × Int × Nat
  | b, r, [] => (b, r, 0)
  | b, r, o :: L => if 1099511627776 < b + baseO o ∨ 1099511627776 < r + resO o then (0, 0, 11) else sumL (b + baseO o) (r + resO o) L
/-- What Lengths answers. -/
def lensL (E : List Op5) : Int × Int × Nat := if (badP E).2 ≠ 0 then (0, 0, (badP E).2) else sumL 0 0 E
theorem len5_range {o : Op5} (h : opE o = 0) (f : Fit o) : 0 ≤ len5 o ∧ len5 o ≤ 1099511627776 := by
  unfold len5
  rcases op_good h with ⟨hi, hk⟩ | ⟨hc, hl, hk⟩ | ⟨hc, hA, hk⟩
  · rw [if_pos hk]
    unfold lenO
    split
    · have := (valid_text o.t hi.utf).2.2
      have := f.t
      omega
    · omega
  · rw [if_neg (by omega)]
    have := hc.lo
    have := hc.hi
    omega
  · rw [if_neg (by omega)]
    have := hc.lo
    have := hc.hi
    omega
theorem base_range {o : Op5} (h : opE o = 0) (f : Fit o) : 0 ≤ baseO o ∧ baseO o ≤ 1099511627776 := by
  have := len5_range h f
  unfold baseO
  split <;> omega
theorem res_range {o : Op5} (h : opE o = 0) (f : Fit o) : 0 ≤ resO o ∧ resO o ≤ 1099511627776 := by
  have := len5_range h f
  unfold resO
  split <;> omega
theorem kinds_of {o : Op5} (h : opE o = 0) : o.k = 1 ∨ o.k = 2 ∨ o.k = 3 ∨ o.k = 4 := by
  rcases op_good h with ⟨_, hk⟩ | ⟨_, _, hk⟩ | ⟨_, _, hk⟩ <;> omega

theorem as_i_r (v : Value) (W : World) : (Instr.typeAssert (.iface 180 v) 56 157 true).run Tryz.prog W = .ok (.tuple #[.agg #[.slice none 0 0, .int .i64 0], .bool false]) W := by kernel_rfl
theorem as_e_r (v : Value) (W : World) : (Instr.typeAssert (.iface 184 v) 56 157 true).run Tryz.prog W = .ok (.tuple #[.agg #[.slice none 0 0, .int .i64 0], .bool false]) W := by kernel_rfl
theorem as_d_r (v : Value) (W : World) : (Instr.typeAssert (.iface 102 v) 56 157 true).run Tryz.prog W = .ok (.tuple #[.agg #[.slice none 0 0, .int .i64 0], .bool false]) W := by kernel_rfl
theorem as_r_r (v : Value) (W : World) : (Instr.typeAssert (.iface 157 v) 56 157 true).run Tryz.prog W = .ok (.tuple #[v, .bool true]) W := by kernel_rfl
theorem as_i_d (v : Value) (W : World) : (Instr.typeAssert (.iface 180 v) 56 102 true).run Tryz.prog W = .ok (.tuple #[.agg #[.int .i64 0], .bool false]) W := by kernel_rfl
theorem as_e_d (v : Value) (W : World) : (Instr.typeAssert (.iface 184 v) 56 102 true).run Tryz.prog W = .ok (.tuple #[.agg #[.int .i64 0], .bool false]) W := by kernel_rfl
theorem as_r_d (v : Value) (W : World) : (Instr.typeAssert (.iface 157 v) 56 102 true).run Tryz.prog W = .ok (.tuple #[.agg #[.int .i64 0], .bool false]) W := by kernel_rfl
theorem as_d_d (v : Value) (W : World) : (Instr.typeAssert (.iface 102 v) 56 102 true).run Tryz.prog W = .ok (.tuple #[v, .bool true]) W := by kernel_rfl
theorem as_r_i (v : Value) (W : World) : (Instr.typeAssert (.iface 157 v) 56 180 true).run Tryz.prog W = .ok (.tuple #[.agg #[.slice none 0 0, .string ⟨#[]⟩, .int .i64 0], .bool false]) W := by kernel_rfl
theorem as_d_i (v : Value) (W : World) : (Instr.typeAssert (.iface 102 v) 56 180 true).run Tryz.prog W = .ok (.tuple #[.agg #[.slice none 0 0, .string ⟨#[]⟩, .int .i64 0], .bool false]) W := by kernel_rfl
theorem rlen_any (s : Value) (n : Int) (w : World) : Calls Tryz.prog 198 #[.agg #[s, .int .i64 n]] w fun e w' => e = .returned (.int .i64 n) ∧ Below w.heap.size w w' := by
  go_enter Tryz.func198, Tryz.ntmps198
  go_wp2
  go_ret
  exact ⟨rfl, (Below.refl _ _).alloc (Nat.le_refl _) _⟩
theorem dlen_any (n : Int) (w : World) : Calls Tryz.prog 196 #[.agg #[.int .i64 n]] w fun e w' => e = .returned (.int .i64 n) ∧ Below w.heap.size w w' := by
  go_enter Tryz.func196, Tryz.ntmps196
  go_wp2
  go_ret
  exact ⟨rfl, (Below.refl _ _).alloc (Nat.le_refl _) _⟩

theorem oneI {P : List Value} {w : World} {B : Nat} {E : List Op5} (h : PieD w B P E) {k : Nat} {x : Value} (hx : P[k]? = some x) : ∃ e s, E[k]? = some e ∧ x = pieceQ e s ∧ OwnA w B s e.A := by
  obtain ⟨e, he, s, h1, h2⟩ := forall2_get h k x hx
  exact ⟨e, s, he, h1, h2⟩
end Go.Proofs.YtalfdjglbbmjcaaGreatDoor

/- ops: what a piece bears; plain retains; what may follow what. -/
namespace Go.Proofs.YtalfdjglbbmjcaaGreatDoor
open Go Go.RowKit Go.Lib
set_option linter.unusedVariables false

theorem pieceQ_1 {o : Op5} {s : Value} (h : o.k = 1) : pieceQ o s = .iface 180 (.agg #[s, .string o.t, .int .i64 (scs o.t.data.toList).length]) := by unfold pieceQ; rw [if_pos h]
theorem pieceQ_2 {o : Op5} {s : Value} (h : o.k = 2) : pieceQ o s = .iface 184 (.agg #[s, .string o.t, valP o.v]) := by unfold pieceQ; rw [if_neg (by omega), if_pos h]
theorem pieceQ_3 {o : Op5} {s : Value} (h : o.k = 3) : pieceQ o s = .iface 157 (.agg #[s, .int .i64 o.c]) := by unfold pieceQ; rw [if_neg (by omega), if_neg (by omega), if_pos h]
theorem pieceQ_4 {o : Op5} {s : Value} (h : o.k = 4) : pieceQ o s = .iface 102 (.agg #[.int .i64 o.c]) := by unfold pieceQ; rw [if_neg (by omega), if_neg (by omega), if_neg (by omega)]
/-- Is an operation a plain retain? -/
def plainR (o : Op5) : Bool := o.k == 3 && o.A.isEmpty
/-- May an operation stand right behind another one in a canonical list? -/
def apartB (x y : Op5) : Bool := if x.k = 4 then y.k == 3 else if x.k ≠ y.k ∨ x.k = 2 then true else !decide (x.A = y.A)
theorem drop_A {o : Op5} (h : opE o = 0) (hk : o.k = 4) : o.A = [] := by
  rcases op_good h with ⟨_, h1⟩ | ⟨_, _, h1⟩ | ⟨_, h2, _⟩
  · omega
  · omega
  · exact h2

end Go.Proofs.YtalfdjglbbmjcaaGreatDoor

/- ops.Canonical. -/
namespace Go.Proofs.YtalfdjglbbmjcaaGreatDoor
open Go Go.RowKit Go.Lib
set_option linter.unusedVariables false

/-- Each may follow the one ahead of it. -/
def chainB : List Op5 → Bool
  | x :: y :: r => apartB x y && chainB (y :: r)
  | _ => true
/-- The last one isn't a plain retain. -/
def lastP (E : List Op5) : Bool := match E.getLast? with | some o => !plainR o | none => true
/-- Is a list canonical? -/
def canonB (E : List Op5) : Bool := decide ((lensL E).2.2 = 0) && chainB E && lastP E
theorem chain_iff : ∀ {E : List Op5}, chainB E = true ↔ ∀ j x y, E[j]? = some x → E[j + 1]? = some y → apartB x y = true
  | [] => ⟨fun _ j x y h => by simp at h, fun _ => rfl⟩
  | [a] => ⟨fun _ j x y _ h => by simp at h, fun _ => rfl⟩
  | a :: b :: r => by
    rw [chainB, Bool.and_eq_true, chain_iff (E := b :: r)]
    constructor
    · rintro ⟨h1, h2⟩ j x y hx hy
      cases j with
      | zero =>
        obtain rfl : a = x := by simpa using hx
        obtain rfl : b = y := by simpa using hy
        exact h1
      | succ j => exact h2 j x y (by simpa using hx) (by simpa using hy)
    · intro h
      exact ⟨h 0 a b rfl rfl, fun j x y hx hy => h (j + 1) x y (by simpa using hx) (by simpa using hy)⟩
theorem lens_cases (E : List Op5) : (lensL E).2.2 = 0 ↔ (badP E).2 = 0 ∧ (sumL 0 0 E).2.2 = 0 := by
  unfold lensL
  by_cases h : (badP E).2 = 0
  · rw [if_neg (by simpa using h)]; exact ⟨fun h2 => ⟨h, h2⟩, fun h2 => h2.2⟩
  · rw [if_pos h]; exact ⟨fun h2 => absurd h2 h, fun h2 => absurd h2.1 h⟩

end Go.Proofs.YtalfdjglbbmjcaaGreatDoor

/- What vellumref04.SameCell and SameCells answer: whether the cells are the same. -/
namespace Go.Proofs.YtalfdjglbbmjcaaGreatDoor
open Go Go.RowKit Go.Lib
set_option linter.unusedVariables false

abbrev ceC (d : CV) : Array Value := #[.int .i32 d.1, .string d.2.1, .int .i64 d.2.2.1.1, .int .i64 d.2.2.1.2.1, .string d.2.2.1.2.2, slV d.2.2.2]
end Go.Proofs.YtalfdjglbbmjcaaGreatDoor

/- What content.Cut answers. -/
namespace Go.Proofs.YtalfdjglbbmjcaaGreatDoor
open Go Go.RowKit Go.Lib
set_option linter.unusedVariables false

/-- The three boxes of a call that answers two operations. -/
abbrev bx3 (w : World) (o : Op5) (s : Value) : World := ((w.alloc (.cells (opC o s) 33)).alloc (.cells (opC opZ nilS) 33)).alloc (.cells (opC opZ nilS) 33)
theorem bx3_below (w : World) (o : Op5) (s : Value) : Below w.heap.size w (bx3 w o s) := (((Below.refl w.heap.size w).alloc (Nat.le_refl _) _).alloc (by simp) _).alloc (by simp; omega) _
theorem bx3_0 (w : World) (o : Op5) (s : Value) : BoxO (bx3 w o s) w.heap.size o s := ((BoxO.new w o s).below ((Below.refl _ _).alloc (Nat.le_refl _) _)).below ((Below.refl _ _).alloc (Nat.le_refl _) _)
theorem bx3_1 (w : World) (o : Op5) (s : Value) : BoxO (bx3 w o s) (w.heap.size + 1) opZ nilS ∧ FrO (bx3 w o s) (w.heap.size + 1) := by
  have h1 := BoxO.new (w.alloc (.cells (opC o s) 33)) opZ nilS
  have h2 := FrO.new (w.alloc (.cells (opC o s) 33)) opZ nilS
  rw [World.size_alloc] at h1 h2
  exact ⟨h1.below ((Below.refl _ _).alloc (Nat.le_refl _) _), h2.below h1 ((Below.refl _ _).alloc (Nat.le_refl _) _)⟩
theorem bx3_2 (w : World) (o : Op5) (s : Value) : BoxO (bx3 w o s) (w.heap.size + 1 + 1) opZ nilS ∧ FrO (bx3 w o s) (w.heap.size + 1 + 1) := by
  have h1 := BoxO.new ((w.alloc (.cells (opC o s) 33)).alloc (.cells (opC opZ nilS) 33)) opZ nilS
  have h2 := FrO.new ((w.alloc (.cells (opC o s) 33)).alloc (.cells (opC opZ nilS) 33)) opZ nilS
  rw [World.size_alloc, World.size_alloc] at h1 h2
  exact ⟨h1, h2⟩

theorem heap_set7 {B k : Nat} (w' : World) (hk : k ≠ B) (v0 v1 v2 v3 v4 v5 v6 : Value) :
    (((((((w'.setCell ⟨B, 0, none⟩ v0).setCell ⟨B, 1, none⟩ v1).setCell ⟨B, 2, none⟩ v2).setCell ⟨B, 3, none⟩ v3).setCell ⟨B, 4, none⟩ v4).setCell ⟨B, 5, none⟩ v5).setCell ⟨B, 6, none⟩ v6).heap[k]? = w'.heap[k]? := by
  have h : ∀ (W : World) (j : Nat) (v : Value), (W.setCell ⟨B, j, none⟩ v).heap[k]? = W.heap[k]? := fun W j v => Below.heap_setCell _ _ _ _ hk
  rw [h, h, h, h, h, h, h]
theorem cell_set7 {B k j : Nat} (w' : World) (hk : k ≠ B) (v0 v1 v2 v3 v4 v5 v6 : Value) :
    (((((((w'.setCell ⟨B, 0, none⟩ v0).setCell ⟨B, 1, none⟩ v1).setCell ⟨B, 2, none⟩ v2).setCell ⟨B, 3, none⟩ v3).setCell ⟨B, 4, none⟩ v4).setCell ⟨B, 5, none⟩ v5).setCell ⟨B, 6, none⟩ v6).cell? ⟨k, j, none⟩ = w'.cell? ⟨k, j, none⟩ :=
  World.cell?_of_block (a := ⟨k, j, none⟩) (heap_set7 w' hk v0 v1 v2 v3 v4 v5 v6)
theorem below_set7 {b B : Nat} {w w' : World} (h : Below b w w') (hB : b ≤ B) (v0 v1 v2 v3 v4 v5 v6 : Value) :
    Below b w (((((((w'.setCell ⟨B, 0, none⟩ v0).setCell ⟨B, 1, none⟩ v1).setCell ⟨B, 2, none⟩ v2).setCell ⟨B, 3, none⟩ v3).setCell ⟨B, 4, none⟩ v4).setCell ⟨B, 5, none⟩ v5).setCell ⟨B, 6, none⟩ v6) :=
  ((((((h.setCell hB _).setCell hB _).setCell hB _).setCell hB _).setCell hB _).setCell hB _).setCell hB _

end Go.Proofs.YtalfdjglbbmjcaaGreatDoor

/- What content.Cut answers of a text that can be cut. -/
namespace Go.Proofs.YtalfdjglbbmjcaaGreatDoor
open Go Go.RowKit Go.Lib
set_option linter.unusedVariables false
end Go.Proofs.YtalfdjglbbmjcaaGreatDoor

/- What content.Join answers. -/
namespace Go.Proofs.YtalfdjglbbmjcaaGreatDoor
open Go Go.RowKit Go.Lib
set_option linter.unusedVariables false

/-- What a join of two is refused with. -/
def joinE (o o' : Op5) : Nat := if insE o = 0 then insE o' else insE o
/-- Whether two inserts are joined. -/
def joinB (o o' : Op5) : Bool := decide (o.k = 1) && (decide (o'.k = 1) && decide (o.A = o'.A))
def joinO (o o' : Op5) : Op5 := ⟨1, o.t ++ o'.t, z0, 0, o.A⟩
abbrev bxJ (w : World) (o : Op5) (s : Value) (o' : Op5) (s' : Value) : World := ((w.alloc (.cells (opC o s) 33)).alloc (.cells (opC o' s') 33)).alloc (.cells (opC opZ nilS) 33)
theorem bxJ_below (w : World) (o : Op5) (s : Value) (o' : Op5) (s' : Value) : Below w.heap.size w (bxJ w o s o' s') := (((Below.refl w.heap.size w).alloc (Nat.le_refl _) _).alloc (by simp) _).alloc (by simp; omega) _
theorem bxJ_1 (w : World) (o : Op5) (s : Value) (o' : Op5) (s' : Value) : BoxO (bxJ w o s o' s') (w.heap.size + 1) o' s' := by
  have h1 := BoxO.new (w.alloc (.cells (opC o s) 33)) o' s'
  rw [World.size_alloc] at h1
  exact h1.below ((Below.refl _ _).alloc (Nat.le_refl _) _)
theorem bxJ_2 (w : World) (o : Op5) (s : Value) (o' : Op5) (s' : Value) : BoxO (bxJ w o s o' s') (w.heap.size + 1 + 1) opZ nilS ∧ FrO (bxJ w o s o' s') (w.heap.size + 1 + 1) := by
  have h1 := BoxO.new ((w.alloc (.cells (opC o s) 33)).alloc (.cells (opC o' s') 33)) opZ nilS
  have h2 := FrO.new ((w.alloc (.cells (opC o s) 33)).alloc (.cells (opC o' s') 33)) opZ nilS
  rw [World.size_alloc, World.size_alloc] at h1 h2
  exact ⟨h1, h2⟩

end Go.Proofs.YtalfdjglbbmjcaaGreatDoor

/- content.textCells: the cells of a text. -/
namespace Go.Proofs.YtalfdjglbbmjcaaGreatDoor
open Go Go.RowKit Go.Lib
set_option linter.unusedVariables false

/-- Cells of scalars with one list. -/
def mkC (A : List A2) (rs : List Nat) : List C5 := rs.map fun (r : Nat) => (((r : Nat) : Int), ⟨#[]⟩, z0, A)
theorem mkC_len (A : List A2) (rs : List Nat) : (mkC A rs).length = rs.length := by simp [mkC]
theorem keepA_iterAt {w : World} {K : Nat} {s : ByteArray} {p0 : Nat} (hk : w.heap[K]? = some (.stringIter s p0)) (p : Nat) : KeepA w (w.iterAt K s p) := fun k cur hc => by
  have hne : k ≠ K := fun e => by subst e; rw [hk] at hc; cases hc
  simp [World.iterAt, Ne.symm hne]
end Go.Proofs.YtalfdjglbbmjcaaGreatDoor

/- What the values' methods answer: Kind, Plain; how values of the interface compare. -/
namespace Go.Proofs.YtalfdjglbbmjcaaGreatDoor
open Go Go.RowKit Go.Lib
set_option linter.unusedVariables false
theorem plain_n (w : World) : Calls Tryz.prog 211 #[.agg #[]] w fun e w' => e = .returned (pl 0 0 ⟨#[]⟩) ∧ Below w.heap.size w w' := by
  go_enter Tryz.func211, Tryz.ntmps211
  go_wp2
  exact bodyPost_ret (v := pl 0 0 ⟨#[]⟩) (by simp [results, Tryz.results211, go_sem]) rfl ⟨rfl, by go_grown⟩
theorem plain_f (b : Bool) (w : World) : Calls Tryz.prog 205 #[.bool b] w fun e w' => e = .returned (pl 1 (if b then 1 else 0) ⟨#[]⟩) ∧ Below w.heap.size w w' := by
  cases b
  · go_enter Tryz.func205, Tryz.ntmps205
    go_wp2
    exact bodyPost_ret (v := pl 1 0 ⟨#[]⟩) (by simp [results, Tryz.results205, go_sem]) rfl ⟨rfl, by go_grown⟩
  · go_enter Tryz.func205, Tryz.ntmps205
    go_wp2
    exact bodyPost_ret (v := pl 1 1 ⟨#[]⟩) (by simp [results, Tryz.results205, go_sem]) rfl ⟨rfl, by go_grown⟩
theorem plain_d (n : Int) (w : World) : Calls Tryz.prog 207 #[.int .i64 n] w fun e w' => e = .returned (pl 2 n ⟨#[]⟩) ∧ Below w.heap.size w w' := by
  go_enter Tryz.func207, Tryz.ntmps207
  go_wp2
  exact bodyPost_ret (v := pl 2 n ⟨#[]⟩) (by simp [results, Tryz.results207, go_sem]) rfl ⟨rfl, by go_grown⟩
theorem plain_t (t : ByteArray) (w : World) : Calls Tryz.prog 209 #[.string t] w fun e w' => e = .returned (pl 3 0 t) ∧ Below w.heap.size w w' := by
  go_enter Tryz.func209, Tryz.ntmps209
  go_wp2
  exact bodyPost_ret (v := pl 3 0 t) (by simp [results, Tryz.results209, go_sem]) rfl ⟨rfl, by go_grown⟩

/-! '==' at api.Value. -/
theorem compNull : (Tryz.prog.info? 218).map (·.comparable) = some true := by kernel_rfl
theorem compFlag : (Tryz.prog.info? 214).map (·.comparable) = some true := by kernel_rfl
theorem compNum : (Tryz.prog.info? 215).map (·.comparable) = some true := by kernel_rfl
theorem compText : (Tryz.prog.info? 216).map (·.comparable) = some true := by kernel_rfl

theorem eql_same_type {tx : TypeId} {vx vy : Value} {b : Bool} (w : World) (hc : (Tryz.prog.info? tx).map (·.comparable) = some true)
    (h : ∀ d : Nat, (Op.equalIn (d + 1) tx vx vy).run Tryz.prog w = .ok b w) : (binOp .eql 182 (.iface tx vx) (.iface tx vy)).run Tryz.prog w = .ok (.bool b) w := by
  cases hi : Tryz.prog.info? tx with
  | none => simp [hi] at hc
  | some i =>
    have hcc : i.comparable = true := by simpa [hi] using hc
    have h2 : ∀ d : Nat, (Op.equalIn (d + 2) 182 (.iface tx vx) (.iface tx vy)).run Tryz.prog w = .ok b w := fun d => by
      rw [Op.equalIn]
      simp [run_underlying Tryz.underlying182, typeInfo, hi, hcc, h d]
    simp only [binOp]
    simp [Op.equal, Op.maxDepth, h2 9998]

theorem eql_null (w : World) : (binOp .eql 182 (.iface 218 (.agg #[])) (.iface 218 (.agg #[]))).run Tryz.prog w = .ok (.bool true) w :=
  eql_same_type w compNull fun d => by
    rw [run_equalIn_agg w d 218 _ _ (by kernel_rfl) (by kernel_rfl)]
    simp [Program.fieldsOf, Tryz.underlying218, Op.eqFields]
theorem eql_flag (a b : Bool) (w : World) : (binOp .eql 182 (.iface 214 (.bool a)) (.iface 214 (.bool b))).run Tryz.prog w = .ok (.bool (a == b)) w :=
  eql_same_type w compFlag fun d => run_equalIn_bool' w d _ a b Tryz.underlying214
theorem eql_num (a b : Int) (w : World) : (binOp .eql 182 (.iface 215 (.int .i64 a)) (.iface 215 (.int .i64 b))).run Tryz.prog w = .ok (.bool (a == b)) w :=
  eql_same_type w compNum fun d => run_equalIn_int w d _ .i64 .i64 a b Tryz.underlying215
theorem eql_text (a b : ByteArray) (w : World) : (binOp .eql 182 (.iface 216 (.string a)) (.iface 216 (.string b))).run Tryz.prog w = .ok (.bool (a.toList == b.toList)) w :=
  eql_same_type w compText fun d => run_equalIn_string w d _ a b Tryz.underlying216
theorem eql_types {tx ty : TypeId} (vx vy : Value) (h : tx ≠ ty) (w : World) : (binOp .eql 182 (.iface tx vx) (.iface ty vy)).run Tryz.prog w = .ok (.bool false) w :=
  run_eql_iface_types tx ty vx vy Tryz.underlying182 h w
end Go.Proofs.YtalfdjglbbmjcaaGreatDoor

/- What content.Cells and content.Newlines answer. -/
namespace Go.Proofs.YtalfdjglbbmjcaaGreatDoor
open Go Go.RowKit Go.Lib
set_option linter.unusedVariables false

/-- An insert's cells. -/
def cellsOf (o : Op5) : List C5 := if o.k = 1 then mkC o.A (scs o.t.data.toList) else [(-1, o.t, o.v, o.A)]
theorem cellsOf_len (o : Op5) : (cellsOf o).length = lenO o := by
  unfold cellsOf lenO
  split
  · exact mkC_len _ _
  · rfl
theorem cellsOf_A (o : Op5) : ∀ e ∈ cellsOf o, e.2.2.2 = o.A := fun e he => by
  unfold cellsOf at he
  split at he
  · unfold mkC at he
    obtain ⟨r, _, rfl⟩ := List.mem_map.1 he
    rfl
  · obtain rfl := List.mem_singleton.1 he
    rfl
/-- How many newlines an insert has. -/
def newlO (o : Op5) : Nat := if o.k = 1 then countByte o.t.data.toList 10 else 0

theorem plain_f0 (w : World) : Calls Tryz.prog 205 #[.bool false] w fun e w' => e = .returned (pl 1 0 ⟨#[]⟩) ∧ Below w.heap.size w w' := plain_f false w
theorem plain_f1 (w : World) : Calls Tryz.prog 205 #[.bool true] w fun e w' => e = .returned (pl 1 1 ⟨#[]⟩) ∧ Below w.heap.size w w' := plain_f true w

end Go.Proofs.YtalfdjglbbmjcaaGreatDoor

/- vellumlaw04.lives. -/
namespace Go.Proofs.YtalfdjglbbmjcaaGreatDoor
open Go Go.RowKit Go.Lib
set_option linter.unusedVariables false

abbrev tA : ByteArray := ⟨#[97, 195, 169, 226, 130, 172]⟩
abbrev tH : ByteArray := ⟨#[97, 195, 169]⟩
abbrev tR : ByteArray := ⟨#[226, 130, 172]⟩
abbrev tX : ByteArray := ⟨#[120]⟩
abbrev tB : ByteArray := ⟨#[98, 10]⟩
abbrev txO (t : ByteArray) : Op5 := ⟨1, t, z0, 0, []⟩
abbrev exO (t : ByteArray) : Op5 := ⟨2, t, z0, 0, []⟩
theorem ins_tx (t : ByteArray) (h1 : t.toList.isEmpty = false) (h2 : brk t.data.toList = t.size) : Ins (txO t) := ⟨Or.inl ⟨rfl, rfl⟩, h1, rfl, h2, chk_z0, rfl⟩
theorem ins_ex (t : ByteArray) (h1 : t.toList.isEmpty = false) (h2 : brk t.data.toList = t.size) (h3 : t.size ≤ 64) : Ins (exO t) := ⟨Or.inr ⟨rfl, h3⟩, h1, rfl, h2, chk_z0, rfl⟩
theorem fit_tx (k : Int) (t : ByteArray) (h : t.size ≤ 8388608) : Fit ⟨k, t, z0, 0, []⟩ := ⟨h, by show (0 : Nat) ≤ 1048576; decide, fun q hq => (by cases hq), by show (0 : Nat) ≤ 1048576; decide⟩
theorem iA : Ins (txO tA) := ins_tx _ (by rw [toList_data]; rfl) (by kernel_rfl)
theorem iH : Ins (txO tH) := ins_tx _ (by rw [toList_data]; rfl) (by kernel_rfl)
theorem iR : Ins (txO tR) := ins_tx _ (by rw [toList_data]; rfl) (by kernel_rfl)
theorem iB : Ins (txO tB) := ins_tx _ (by rw [toList_data]; rfl) (by kernel_rfl)
theorem iX : Ins (exO tX) := ins_ex _ (by rw [toList_data]; rfl) (by kernel_rfl) (by decide)
theorem scsA : scs tA.data.toList = [97, 233, 8364] := by kernel_rfl
theorem scsB : scs tB.data.toList = [98, 10] := by kernel_rfl
theorem posA : pos (scs tA.data.toList) 2 = 3 := by rw [scsA]; kernel_rfl
theorem extH : tA.extract 0 3 = tH := by kernel_rfl
theorem extR : tA.extract 3 tA.size = tR := by kernel_rfl
theorem catA : tH ++ tR = tA := by kernel_rfl
theorem newlB : newlO (txO tB) = 1 := by kernel_rfl
theorem lenX : lenO (exO tX) = 1 := rfl
theorem RN.val0 {w : World} {v : Value} (h : RN w v []) : ∃ p c, v = .slice p 0 c := by
  obtain ⟨p, c, h, _⟩ := h.row.val
  exact ⟨p, c, h⟩

end Go.Proofs.YtalfdjglbbmjcaaGreatDoor

/- Joins of inserts, purely; Join at all operations. -/
namespace Go.Proofs.YtalfdjglbbmjcaaGreatDoor
open Go Go.RowKit Go.Lib
set_option linter.unusedVariables false

theorem chkP_le (p : P3) : chkP p ≤ 10 := chk_le _ _ _
theorem listE_le' (nulls : Bool) : ∀ (L : List A2) (pv : Option ByteArray), listE nulls pv L ≤ 10
  | [], _ => Nat.zero_le _
  | q :: r, pv => by
    have hp : pairE q ≤ 10 := by
      unfold pairE
      split
      · omega
      · split
        · omega
        · exact chk_le _ _ _
    rw [listE]
    split
    · split
      · omega
      · split
        · exact listE_le' nulls r _
        · omega
    · exact hp
theorem insE_le19 (o : Op5) : insE o ≤ 19 := by
  have := insE_le o (fun L => listE_le' false L none)
  omega
theorem joinE_le (o o' : Op5) : joinE o o' ≤ 19 := by
  unfold joinE
  have := insE_le19 o
  have := insE_le19 o'
  split <;> omega
def jB (o o' : Op5) : Bool := decide (joinE o o' = 0) && joinB o o'
def jR (o o' : Op5) : Op5 := if jB o o' = true then joinO o o' else opZ
theorem jB_yes {o o' : Op5} (h : jB o o' = true) : Ins o ∧ Ins o' ∧ o.k = 1 ∧ o'.k = 1 ∧ o.A = o'.A := by
  unfold jB joinB joinE at h
  simp only [Bool.and_eq_true, decide_eq_true_eq] at h
  obtain ⟨h1, h2, h3, h4⟩ := h
  by_cases hi : insE o = 0
  · rw [if_pos hi] at h1
    exact ⟨ins_of hi, ins_of h1, h2, h3, h4⟩
  · rw [if_neg hi] at h1
    exact absurd h1 hi
theorem jB_of {o o' : Op5} (h : Ins o) (h' : Ins o') (hk : o.k = 1) (hk' : o'.k = 1) (hA : o.A = o'.A) : jB o o' = true := by
  unfold jB joinB joinE
  simp [h.zero, h'.zero, hk, hk', hA]
theorem jB_no {o o' : Op5} (h : ¬ (o.k = 1 ∧ o'.k = 1 ∧ o.A = o'.A)) : jB o o' = false := by
  cases hj : jB o o'
  · rfl
  · obtain ⟨_, _, h1, h2, h3⟩ := jB_yes hj
    exact absurd ⟨h1, h2, h3⟩ h
theorem jB_err {o o' : Op5} {e : Nat} (h : joinE o o' = e + 1) : jB o o' = false := by
  unfold jB
  simp [h]
theorem isEmp_size {t : ByteArray} (h : t.toList.isEmpty = false) : 0 < t.size := by
  rcases Nat.eq_zero_or_pos t.size with h0 | h0
  · exfalso
    have : t.toList = [] := by rw [toList_data]; exact List.eq_nil_of_length_eq_zero (by rw [size_toList]; exact h0)
    rw [this] at h; cases h
  · exact h0
theorem size_isEmp {t : ByteArray} (h : 0 < t.size) : t.toList.isEmpty = false := by
  cases he : t.toList.isEmpty
  · rfl
  · rw [emp_iff] at he
    subst he
    exact absurd h (by decide)
theorem cat_list (a b : ByteArray) : (a ++ b).data.toList = a.data.toList ++ b.data.toList := by rw [ByteArray.data_append, Array.toList_append]
theorem scs_cat {a b : List UInt8} (ha : brk a = a.length) (hb : brk b = b.length) : scs (a ++ b) = scs a ++ scs b ∧ brk (a ++ b) = (a ++ b).length := by
  have ea := valid_of_brk ha
  have eb := valid_of_brk hb
  obtain ⟨_, h1, _, _⟩ := text_cases a
  obtain ⟨_, h2, _, _⟩ := text_cases b
  have h12 : ∀ r ∈ scs a ++ scs b, scal r := fun r hr => by
    rcases List.mem_append.1 hr with h | h
    · exact h1 r h
    · exact h2 r h
  have e : a ++ b = encs (scs a ++ scs b) ++ [] := by
    rw [List.append_nil, encs_append, ← ea, ← eb]
  refine ⟨?_, ?_⟩
  · conv => lhs; rw [e]
    exact scs_eq h12 (Or.inl rfl)
  · conv => lhs; rw [e]
    rw [brk_eq h12 (Or.inl rfl), encs_append, ← ea, ← eb]
theorem ins_join {o o' : Op5} (h : Ins o) (h' : Ins o') : Ins (joinO o o') := by
  have hs : (o.t ++ o'.t).size = o.t.size + o'.t.size := ByteArray.size_append
  refine ⟨Or.inl ⟨rfl, rfl⟩, size_isEmp ?_, rfl, ?_, chk_z0, h.set⟩
  · have := isEmp_size h.full
    show 0 < (o.t ++ o'.t).size
    omega
  · show brk (o.t ++ o'.t).data.toList = (o.t ++ o'.t).size
    rw [cat_list, (scs_cat (by rw [h.utf, size_toList]) (by rw [h'.utf, size_toList])).2, List.length_append, size_toList, size_toList, hs]
theorem cells_join {o o' : Op5} (h : Ins o) (h' : Ins o') (hk : o.k = 1) (hk' : o'.k = 1) (hA : o.A = o'.A) : cellsOf (joinO o o') = cellsOf o ++ cellsOf o' := by
  unfold cellsOf
  rw [if_pos (show (joinO o o').k = 1 from rfl), if_pos hk, if_pos hk', ← hA]
  show mkC o.A (scs (o.t ++ o'.t).data.toList) = _
  rw [cat_list, (scs_cat (by rw [h.utf, size_toList]) (by rw [h'.utf, size_toList])).1]
  simp [mkC]
theorem join_assoc (x y z : Op5) : joinO (joinO x y) z = joinO x (joinO y z) := by
  unfold joinO
  simp only [ByteArray.append_assoc]
theorem fit_join {o o' : Op5} (h : Fit o) (hs : o.t.size + o'.t.size ≤ 8388608) : Fit (joinO o o') := ⟨by show (o.t ++ o'.t).size ≤ _; rw [ByteArray.size_append]; exact hs, by show (0 : Nat) ≤ 1048576; decide, h.A, h.n⟩
theorem fit_Z : Fit opZ := ⟨by show (0 : Nat) ≤ 8388608; decide, by show (0 : Nat) ≤ 1048576; decide, fun q hq => (by cases hq), by show (0 : Nat) ≤ 1048576; decide⟩

end Go.Proofs.YtalfdjglbbmjcaaGreatDoor

/- Deltas unit by unit: what operations are, cell by cell and gap by gap; canonical lists are told apart by it. -/
namespace Go.Proofs.YtalfdjglbbmjcaaGreatDoor
open Go Go.RowKit Go.Lib
set_option linter.unusedVariables false

/-- A unit of a delta: a cell that comes, a cell that stays with a patch, a cell that goes. -/
inductive U6 where
  | ins (c : C5)
  | keep (A : List A2)
  | del
/-- An operation that is well formed but for the upper bound of its count. -/
def Wel (o : Op5) : Prop := (Ins o ∧ (o.k = 1 ∨ o.k = 2)) ∨ (o.k = 3 ∧ o.t = ⟨#[]⟩ ∧ o.v = z0 ∧ 1 ≤ o.c ∧ listE true none o.A = 0) ∨ (o.k = 4 ∧ o.t = ⟨#[]⟩ ∧ o.v = z0 ∧ 1 ≤ o.c ∧ o.A = [])
theorem wel_of {o : Op5} (h : opE o = 0) : Wel o := by
  rcases op_good h with h | ⟨h1, h2, h3⟩ | ⟨h1, h2, h3⟩
  · exact Or.inl h
  · exact Or.inr (Or.inl ⟨h3, emp_iff.1 h1.text, h1.val, h1.lo, h2⟩)
  · exact Or.inr (Or.inr ⟨h3, emp_iff.1 h1.text, h1.val, h1.lo, h2⟩)
theorem Wel.good {o : Op5} (h : Wel o) (hc : o.c ≤ 1099511627776) : opE o = 0 := by
  rcases h with ⟨h1, h2⟩ | ⟨h1, h2, h3, h4, h5⟩ | ⟨h1, h2, h3, h4, h5⟩
  · unfold opE; rw [if_pos h2]; exact h1.zero
  · unfold opE
    rw [if_neg (by omega), if_pos h1, if_neg (by simpa using cnt_iff.2 ⟨emp_iff.2 h2, h3, h4, hc⟩)]
    exact h5
  · unfold opE
    rw [if_neg (by omega), if_neg (by omega), if_pos h1, if_neg (by simpa using h5)]
    exact cnt_iff.2 ⟨emp_iff.2 h2, h3, h4, hc⟩
theorem Wel.kinds {o : Op5} (h : Wel o) : o.k = 1 ∨ o.k = 2 ∨ o.k = 3 ∨ o.k = 4 := by
  rcases h with ⟨_, h⟩ | ⟨h, _⟩ | ⟨h, _⟩ <;> omega
/-- What an operation is, unit by unit. -/
def unitsO (o : Op5) : List U6 :=
  if o.k = 1 ∨ o.k = 2 then (cellsOf o).map .ins else if o.k = 3 then List.replicate o.c.toNat (.keep o.A) else List.replicate o.c.toNat .del
def units : List Op5 → List U6
  | [] => []
  | o :: r => unitsO o ++ units r
theorem units_append : ∀ E F : List Op5, units (E ++ F) = units E ++ units F
  | [], F => rfl
  | o :: r, F => by
    show unitsO o ++ units (r ++ F) = _
    rw [units_append r F, ← List.append_assoc]; rfl
theorem units_one (o : Op5) : units [o] = unitsO o := by show unitsO o ++ [] = _; rw [List.append_nil]

/-- May two units be of one operation? -/
def runB : U6 → U6 → Prop
  | .ins c, .ins d => 0 ≤ c.1 ∧ 0 ≤ d.1 ∧ c.2.2.2 = d.2.2.2
  | .keep A, .keep B => A = B
  | .del, .del => True
  | _, _ => False
instance (u v : U6) : Decidable (runB u v) := by cases u <;> cases v <;> unfold runB <;> infer_instance

theorem mem_cells1 {o : Op5} (hk : o.k = 1) {u : U6} (h : u ∈ (cellsOf o).map U6.ins) : ∃ r : Nat, u = .ins ((r : Int), ⟨#[]⟩, z0, o.A) := by
  obtain ⟨c, hc, rfl⟩ := List.mem_map.1 h
  unfold cellsOf at hc
  rw [if_pos hk, mkC] at hc
  obtain ⟨r, _, rfl⟩ := List.mem_map.1 hc
  exact ⟨r, rfl⟩
theorem cells2 {o : Op5} (hk : o.k = 2) : (cellsOf o).map U6.ins = [.ins (-1, o.t, o.v, o.A)] := by
  unfold cellsOf
  rw [if_neg (by omega)]; rfl
theorem scs_ne {t : ByteArray} (h : t.toList.isEmpty = false) (hb : brk t.data.toList = t.size) : scs t.data.toList ≠ [] := fun e => by
  have h1 := isEmp_size h
  unfold brk at hb
  rw [e] at hb
  simp [encs] at hb
  omega
/-- Every operation has a unit. -/
theorem unitsO_ne {o : Op5} (h : Wel o) : unitsO o ≠ [] := by
  unfold unitsO
  rcases h with ⟨h1, h2⟩ | ⟨h1, h2, h3, h4, h5⟩ | ⟨h1, h2, h3, h4, h5⟩
  · rw [if_pos h2]
    rcases h2 with h2 | h2
    · unfold cellsOf
      rw [if_pos h2, mkC]
      intro e
      rw [List.map_eq_nil_iff, List.map_eq_nil_iff] at e
      exact scs_ne h1.full h1.utf e
    · rw [cells2 h2]; simp
  · rw [if_neg (by omega), if_pos h1]
    intro e
    have := congrArg List.length e
    simp at this
    omega
  · rw [if_neg (by omega), if_neg (by omega)]
    intro e
    have := congrArg List.length e
    simp at this
    omega
/-- What a unit of an operation tells of it. -/
theorem unit_cases {o : Op5} (h : Wel o) {u : U6} (hu : u ∈ unitsO o) : (o.k = 1 ∧ ∃ r : Nat, u = .ins ((r : Int), ⟨#[]⟩, z0, o.A)) ∨ (o.k = 2 ∧ u = .ins (-1, o.t, o.v, o.A)) ∨ (o.k = 3 ∧ u = .keep o.A) ∨ (o.k = 4 ∧ u = .del) := by
  unfold unitsO at hu
  rcases h.kinds with hk | hk | hk | hk
  · rw [if_pos (Or.inl hk)] at hu
    exact Or.inl ⟨hk, mem_cells1 hk hu⟩
  · rw [if_pos (Or.inr hk), cells2 hk] at hu
    exact Or.inr (Or.inl ⟨hk, List.mem_singleton.1 hu⟩)
  · rw [if_neg (by omega), if_pos hk] at hu
    exact Or.inr (Or.inr (Or.inl ⟨hk, List.eq_of_mem_replicate hu⟩))
  · rw [if_neg (by omega), if_neg (by omega)] at hu
    exact Or.inr (Or.inr (Or.inr ⟨hk, List.eq_of_mem_replicate hu⟩))
theorem run_in {o : Op5} (h : Wel o) (hk : o.k ≠ 2) {u v : U6} (hu : u ∈ unitsO o) (hv : v ∈ unitsO o) : runB u v := by
  rcases unit_cases h hu with ⟨h1, r, rfl⟩ | ⟨h1, rfl⟩ | ⟨h1, rfl⟩ | ⟨h1, rfl⟩
  · rcases unit_cases h hv with ⟨h2, r', rfl⟩ | ⟨h2, rfl⟩ | ⟨h2, rfl⟩ | ⟨h2, rfl⟩
    · exact ⟨by simp, by simp, rfl⟩
    all_goals omega
  · exact absurd h1 hk
  · rcases unit_cases h hv with ⟨h2, r', rfl⟩ | ⟨h2, rfl⟩ | ⟨h2, rfl⟩ | ⟨h2, rfl⟩
    any_goals omega
    rfl
  · rcases unit_cases h hv with ⟨h2, r', rfl⟩ | ⟨h2, rfl⟩ | ⟨h2, rfl⟩ | ⟨h2, rfl⟩
    any_goals omega
    trivial
theorem run_apart {x y : Op5} (hx : Wel x) (hy : Wel y) (ha : apartB x y = true) {u v : U6} (hu : u ∈ unitsO x) (hv : v ∈ unitsO y) : ¬ runB u v := by
  unfold apartB at ha
  rcases unit_cases hx hu with ⟨h1, r, rfl⟩ | ⟨h1, rfl⟩ | ⟨h1, rfl⟩ | ⟨h1, rfl⟩ <;> rcases unit_cases hy hv with ⟨h2, r', rfl⟩ | ⟨h2, rfl⟩ | ⟨h2, rfl⟩ | ⟨h2, rfl⟩
  all_goals first | (intro h; cases h; done) | skip
  · rw [if_neg (by omega), if_neg (by omega)] at ha
    rintro ⟨_, _, h⟩
    simp only at h
    simp [h] at ha
  · rintro ⟨_, h, _⟩
    simp at h
  · rintro ⟨h, _, _⟩
    simp at h
  · rintro ⟨h, _, _⟩
    simp at h
  · rw [if_neg (by omega), if_neg (by omega)] at ha
    intro h
    have h : x.A = y.A := h
    simp [h] at ha
  · rw [if_pos h1, h2] at ha
    cases ha
theorem scs_injB {t t' : ByteArray} (h : brk t.data.toList = t.size) (h' : brk t'.data.toList = t'.size) (e : scs t.data.toList = scs t'.data.toList) : t = t' := by
  have e1 := valid_of_brk (l := t.data.toList) (by rw [h, size_toList])
  have e2 := valid_of_brk (l := t'.data.toList) (by rw [h', size_toList])
  apply ByteArray.ext
  apply Array.ext'
  rw [e1, e2, e]
theorem op_ext {x y : Op5} (h1 : x.k = y.k) (h2 : x.t = y.t) (h3 : x.v = y.v) (h4 : x.c = y.c) (h5 : x.A = y.A) : x = y := by
  cases x; cases y; simp only at h1 h2 h3 h4 h5; subst h1 h2 h3 h4 h5; rfl
/-- An operation is told by its units. -/
theorem unitsO_inj {x y : Op5} (hx : Wel x) (hy : Wel y) (h : unitsO x = unitsO y) : x = y := by
  obtain ⟨u, us, hu⟩ := List.exists_cons_of_ne_nil (unitsO_ne hx)
  have m1 : u ∈ unitsO x := by rw [hu]; exact List.mem_cons_self ..
  have m2 : u ∈ unitsO y := by rw [← h]; exact m1
  unfold unitsO at h
  rcases unit_cases hx m1 with ⟨h1, r, rfl⟩ | ⟨h1, rfl⟩ | ⟨h1, rfl⟩ | ⟨h1, rfl⟩ <;> rcases unit_cases hy m2 with ⟨h2, r', e⟩ | ⟨h2, e⟩ | ⟨h2, e⟩ | ⟨h2, e⟩
  any_goals (simp at e; done)
  · rw [if_pos (Or.inl h1), if_pos (Or.inl h2)] at h
    simp only [U6.ins.injEq, Prod.mk.injEq] at e
    obtain ⟨i1, _⟩ := hx.resolve_right (by rintro (h | h) <;> omega)
    obtain ⟨i2, _⟩ := hy.resolve_right (by rintro (h | h) <;> omega)
    unfold cellsOf at h
    rw [if_pos h1, if_pos h2, mkC, mkC, ← e.2.2.2, List.map_map, List.map_map] at h
    have := (List.map_inj_right (fun (a b : Nat) (hab : (U6.ins ((a : Int), (⟨#[]⟩ : ByteArray), z0, x.A)) = U6.ins ((b : Int), ⟨#[]⟩, z0, x.A)) => by
      simp only [U6.ins.injEq, Prod.mk.injEq] at hab
      exact Int.ofNat_inj.1 hab.1)).1 h
    refine op_ext (by omega) (scs_injB i1.utf i2.utf this) ?_ (by rw [i1.count, i2.count]) e.2.2.2
    rw [(i1.kind.resolve_right (by omega)).2, (i2.kind.resolve_right (by omega)).2]
  · simp only [U6.ins.injEq, Prod.mk.injEq] at e
    obtain ⟨i1, _⟩ := hx.resolve_right (by rintro (h | h) <;> omega)
    obtain ⟨i2, _⟩ := hy.resolve_right (by rintro (h | h) <;> omega)
    exact op_ext (by omega) e.2.1 e.2.2.1 (by rw [i1.count, i2.count]) e.2.2.2
  · rw [if_neg (by omega), if_pos h1, if_neg (by omega), if_pos h2] at h
    have hl := congrArg List.length h
    simp only [List.length_replicate] at hl
    obtain ⟨_, a1, a2, a3, _⟩ := (hx.resolve_left (fun h => by omega)).resolve_right (fun h => by omega)
    obtain ⟨_, b1, b2, b3, _⟩ := (hy.resolve_left (fun h => by omega)).resolve_right (fun h => by omega)
    simp only [U6.keep.injEq] at e
    exact op_ext (by omega) (by rw [a1, b1]) (by rw [a2, b2]) (by omega) e
  · rw [if_neg (by omega), if_neg (by omega), if_neg (by omega), if_neg (by omega)] at h
    have hl := congrArg List.length h
    simp only [List.length_replicate] at hl
    obtain ⟨_, a1, a2, a3, a4⟩ := (hx.resolve_left (fun h => by omega)).resolve_left (fun h => by omega)
    obtain ⟨_, b1, b2, b3, b4⟩ := (hy.resolve_left (fun h => by omega)).resolve_left (fun h => by omega)
    exact op_ext (by omega) (by rw [a1, b1]) (by rw [a2, b2]) (by omega) (by rw [a4, b4])
theorem takeWhile_run {p : U6 → Bool} : ∀ {a b : List U6}, (∀ v ∈ a, p v = true) → (∀ v, b.head? = some v → p v = false) → (a ++ b).takeWhile p = a
  | [], [], _, _ => rfl
  | [], v :: b, _, h => by rw [List.nil_append, List.takeWhile_cons, h v rfl]; rfl
  | u :: a, b, h, hb => by
    rw [List.cons_append, List.takeWhile_cons, h u (List.mem_cons_self ..)]
    simp only [if_true]
    rw [takeWhile_run (fun v hv => h v (List.mem_cons_of_mem _ hv)) hb]
theorem head_units {y : Op5} {r : List Op5} (hy : Wel y) {v : U6} (h : (units (y :: r)).head? = some v) : v ∈ unitsO y := by
  obtain ⟨u, us, hu⟩ := List.exists_cons_of_ne_nil (unitsO_ne hy)
  have : (units (y :: r)).head? = some u := by show (unitsO y ++ units r).head? = _; rw [hu]; rfl
  rw [this] at h
  obtain rfl := Option.some.inj h
  rw [hu]; exact List.mem_cons_self ..
theorem chain_tail {x : Op5} {r : List Op5} (h : chainB (x :: r) = true) : chainB r = true := by
  cases r with
  | nil => rfl
  | cons y r => rw [chainB, Bool.and_eq_true] at h; exact h.2
/-- **Lists in which no two neighbours might be one are told by their units.** -/
theorem units_inj : ∀ {E F : List Op5}, (∀ o ∈ E, Wel o) → (∀ o ∈ F, Wel o) → chainB E = true → chainB F = true → units E = units F → E = F
  | [], [], _, _, _, _, _ => rfl
  | [], y :: s, _, hF, _, _, h => by
    exfalso
    have := unitsO_ne (hF y (List.mem_cons_self ..))
    have h : [] = unitsO y ++ units s := h
    exact this (List.append_eq_nil_iff.1 h.symm).1
  | x :: r, [], hE, _, _, _, h => by
    exfalso
    have := unitsO_ne (hE x (List.mem_cons_self ..))
    have h : unitsO x ++ units r = [] := h
    exact this (List.append_eq_nil_iff.1 h).1
  | x :: r, y :: s, hE, hF, cE, cF, h => by
    have wx := hE x (List.mem_cons_self ..)
    have wy := hF y (List.mem_cons_self ..)
    have h' : unitsO x ++ units r = unitsO y ++ units s := h
    have run : ∀ {z : Op5} {q : List Op5} (hz : Wel z) (hq : ∀ o ∈ q, Wel o) (hc : chainB (z :: q) = true) (hk : z.k ≠ 2) (u : U6) (hu : u ∈ unitsO z), (unitsO z ++ units q).takeWhile (fun v => decide (runB u v)) = unitsO z := fun {z q} hz hq hc hk u hu => by
      refine takeWhile_run (fun v hv => decide_eq_true (run_in hz hk hu hv)) (fun v hv => decide_eq_false ?_)
      cases q with
      | nil => cases hv
      | cons w q =>
        have ww := hq w (List.mem_cons_self ..)
        rw [chainB, Bool.and_eq_true] at hc
        exact run_apart hz ww hc.1 hu (head_units ww hv)
    obtain ⟨u, us, hu⟩ := List.exists_cons_of_ne_nil (unitsO_ne wx)
    obtain ⟨u', us', hu'⟩ := List.exists_cons_of_ne_nil (unitsO_ne wy)
    obtain rfl : u = u' := by rw [hu, hu'] at h'; exact (List.cons.inj h').1
    have m1 : u ∈ unitsO x := by rw [hu]; exact List.mem_cons_self ..
    have m2 : u ∈ unitsO y := by rw [hu']; exact List.mem_cons_self ..
    have e : unitsO x = unitsO y := by
      by_cases hx2 : x.k = 2
      · by_cases hy2 : y.k = 2
        · rcases unit_cases wx m1 with ⟨h1, _⟩ | ⟨h1, e1⟩ | ⟨h1, _⟩ | ⟨h1, _⟩
          any_goals omega
          rcases unit_cases wy m2 with ⟨h2, _⟩ | ⟨h2, e2⟩ | ⟨h2, _⟩ | ⟨h2, _⟩
          any_goals omega
          unfold unitsO
          rw [if_pos (Or.inr hx2), if_pos (Or.inr hy2), cells2 hx2, cells2 hy2, ← e1, ← e2]
        · exfalso
          have := run_in wy hy2 m2 m2
          rcases unit_cases wx m1 with ⟨h1, _⟩ | ⟨h1, e1⟩ | ⟨h1, _⟩ | ⟨h1, _⟩
          any_goals omega
          rw [e1] at this
          have h0 : (0 : Int) ≤ -1 := this.1
          omega
      · by_cases hy2 : y.k = 2
        · exfalso
          have := run_in wx hx2 m1 m1
          rcases unit_cases wy m2 with ⟨h1, _⟩ | ⟨h1, e1⟩ | ⟨h1, _⟩ | ⟨h1, _⟩
          any_goals omega
          rw [e1] at this
          have h0 : (0 : Int) ≤ -1 := this.1
          omega
        · rw [← run wx (fun o ho => hE o (List.mem_cons_of_mem _ ho)) cE hx2 u m1, h', run wy (fun o ho => hF o (List.mem_cons_of_mem _ ho)) cF hy2 u m2]
    rw [unitsO_inj wx wy e]
    rw [e] at h'
    rw [units_inj (fun o ho => hE o (List.mem_cons_of_mem _ ho)) (fun o ho => hF o (List.mem_cons_of_mem _ ho)) (chain_tail cE) (chain_tail cF) (List.append_cancel_left h')]
end Go.Proofs.YtalfdjglbbmjcaaGreatDoor
