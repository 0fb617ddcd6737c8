/- Of all texts and lists of bulk within the bound vellumlaw01.ScalarsBack answers true and leaves them as they are. -/
import Derived.Test.YtdnelmbihblakaaDoorRow
import Derived.Test.YtdnelmbihblakaaDoorLives
import Derived.Test.YtdnelmbihblakaaDoorVt
import Derived.Test.YtdnelmbihblakaaDoorRef
namespace Go.Proofs.YtdnelmbihblakaaDoor
open Go Go.RowKit Go.Lib Go.ChangeShapes Go.WideShapes Go.ChangeAt
open Go.WideMaps Go.WideElems
open Go.ChangeMaps (open_string shut_string)
set_option linter.unusedVariables false

theorem cells32_len' (zs : List Int) : (cells32 zs).length = zs.length := by simp [cells32]
theorem cells32_set (zs : List Int) (j : Nat) (z : Int) : (cells32 zs).set j (.int .i32 z) = cells32 (zs.set j z) := by simp [cells32, List.map_set]
theorem cells32_snoc (zs : List Int) (z : Int) : cells32 zs ++ [.int .i32 z] = cells32 (zs ++ [z]) := by simp [cells32]

theorem heap_set (w : World) (g j : Nat) (u : Value) (cur : Array Value) (e : TypeId) (f : Nat × Nat) (h : w.heap[g]? = some (.cells cur e f)) : (w.setCell ⟨g, j, none⟩ u).heap[g]? = some (.cells (cur.setIfInBounds j u) e f) := by
  simp [World.setCell, Array.getElem?_modify, h]

/-- A store into an owned row. -/
theorem own_set {w : World} {B g n cap : Nat} {zs : List Int} (h : w.ownsRow B 21 1 (.slice (some ⟨g, 0, none⟩) n cap) n (cells32 zs)) (j : Nat) (z : Int) :
    (w.setCell ⟨g, j, none⟩ (.int .i32 z)).ownsRow B 21 1 (.slice (some ⟨g, 0, none⟩) n cap) n (cells32 (zs.set j z)) := by
  have hl : zs.length = n := by have := h.1; rw [cells32_len'] at this; omega
  refine ⟨by rw [cells32_len', List.length_set]; omega, ?_⟩
  rcases h.2 with ⟨h0, _⟩ | ⟨g', cap', cur, h1, h2, h3, h4, h5, h6, h7⟩
  · cases h0
  · simp only [Value.slice.injEq, Option.some.injEq, Addr.mk.injEq, and_true, true_and] at h1
    obtain ⟨rfl, rfl⟩ := h1
    refine Or.inr ⟨g, cap, _, rfl, h2, heap_set w g j _ cur _ _ h3, h4, h5, by simpa using h6, ?_⟩
    rw [← cells32_set, ← h7, Array.toList_setIfInBounds, ← List.take_set]

theorem own_form {w : World} {B n : Nat} {v : Value} {xs : List Value} (h : w.ownsRow B 21 1 v n xs) :
    ∃ p cap, v = .slice p n cap ∧ ∀ g o s, p = some ⟨g, o, s⟩ → o = 0 ∧ s = none ∧ B ≤ g := by
  rcases h.2 with ⟨h0, h1⟩ | ⟨g', cap', cur, h1, h2, h3, h4, h5, h6, h7⟩
  · exact ⟨none, 0, by rw [h0, h1], fun g o s h => by cases h⟩
  · exact ⟨_, cap', h1, fun g o s h => by cases h; exact ⟨rfl, rfl, h2⟩⟩

theorem own_at {w : World} {B g n cap : Nat} {zs : List Int} (h : w.ownsRow B 21 1 (.slice (some ⟨g, 0, none⟩) n cap) n (cells32 zs)) (j : Nat) (hj : j < n) :
    w.cell? ⟨g, j, none⟩ = some (.int .i32 (zs.getD j 0)) ∧ w.frozen? ⟨g, j, none⟩ = false ∧ B ≤ g := by
  have hl : zs.length = n := by have := h.1; rw [cells32_len'] at this; omega
  rcases h.2 with ⟨h0, _⟩ | ⟨g', cap', cur, h1, h2, h3, h4, h5, h6, h7⟩
  · cases h0
  · simp only [Value.slice.injEq, Option.some.injEq, Addr.mk.injEq, and_true, true_and] at h1
    obtain ⟨rfl, rfl⟩ := h1
    have := congrArg (·[j]?) h7
    simp only [Nat.mul_one, List.getElem?_take, hj, if_true] at this
    have e : (cells32 zs)[j]? = some (.int .i32 (zs.getD j 0)) := by
      rw [cells32, List.getElem?_map, List.getD, List.getElem?_eq_getElem (by omega)]; rfl
    rw [e] at this
    refine ⟨?_, ?_, h2⟩
    · simp only [World.cell?, h3]
      simpa using this
    · simp [World.frozen?, h3]
theorem own_have {w : World} {B j n cap : Nat} {p : Option Addr} {xs : List Value} (h : w.ownsRow B 21 1 (.slice p n cap) n xs) (hj : j < n) : ∃ g, p = some ⟨g, 0, none⟩ := by
  rcases h.2 with ⟨_, h1⟩ | ⟨g', cap', cur, h1, _⟩
  · omega
  · simp only [Value.slice.injEq] at h1
    exact ⟨g', h1.1⟩
theorem row32_far {w : World} {g j : Nat} {u v : Value} {zs : List Int} (h : Row32 w v zs) (hg : ∀ p, v.ownBlock = some p → p ≠ g) : Row32 (w.setCell ⟨g, j, none⟩ u) v zs := by
  obtain ⟨p, cap, rfl, hc⟩ := h.ex
  refine ⟨p, cap, rfl, fun k hk => ?_⟩
  obtain ⟨b, off, rfl, hcell⟩ := hc k hk
  refine ⟨b, off, rfl, ?_⟩
  rw [World.cell?_setCell_other]
  · exact hcell
  · intro e
    have := hg b rfl
    simp only [Addr.mk.injEq] at e
    exact this e.1.symm

theorem ints_of' {zs : List Int} (h : ∀ z ∈ zs, isScal z) : ∃ rs, zs = ints rs ∧ scals rs := by
  refine ⟨zs.map Int.toNat, ?_, ?_⟩
  · rw [ints, List.map_map]
    conv => lhs; rw [← List.map_id zs]
    refine List.map_congr_left fun z hz => ?_
    have := h z hz
    unfold isScal at this
    show z = ((z.toNat : Nat) : Int)
    omega
  · intro r hr
    obtain ⟨z, hz, rfl⟩ := List.mem_map.1 hr
    have := h z hz
    unfold isScal at this
    unfold scal
    omega
/-- What scalars.Text answers: one of two. -/
def TextIs (ad : Nat → Addr) (w : World) (v : Value) (zs : List Int) (T : ByteArray) (E : Value) : Prop :=
  ∀ W, Below w.heap.size w W → Calls Tryd.prog 21 #[v] W fun e w' => e = .returned (.tuple #[.string T, E]) ∧ Below W.heap.size W w' ∧ Below w.heap.size w w'
theorem text_is {ad : Nat → Addr} {w : World} (hS : Std ad w) (v : Value) (zs : List Int) (hv : Row32 w v zs) (hl : zs.length ≤ 1048576) :
    (∃ rs, zs = ints rs ∧ scals rs ∧ TextIs ad w v zs (txt rs) .nilIface) ∨ TextIs ad w v zs ⟨#[]⟩ (errV ad 0) := by
  by_cases h : ∀ z ∈ zs, isScal z
  · obtain ⟨rs, h1, h2⟩ := ints_of' h
    subst h1
    exact .inl ⟨rs, rfl, h2, fun W hW => from_here hW (text_ok (a := ad) v rs W (hv.below hW) h2 (by rw [ints_length] at hl; omega))⟩
  · exact .inr fun W hW => from_here hW (text_no v zs W (hS.below hW).sent (hv.below hW) (by simpa using h) (by omega))

theorem row32_grown {w w' : World} {v : Value} {zs : List Int} {row : Option Nat} (h : Row32 w v zs) (hg : w.grownBy w' row) (hne : ∀ q, v.ownBlock = some q → some q ≠ row) : Row32 w' v zs := by
  obtain ⟨p, cap, rfl, hc⟩ := h.ex
  refine ⟨p, cap, rfl, fun k hk => ?_⟩
  obtain ⟨b, off, rfl, hcell⟩ := hc k hk
  refine ⟨b, off, rfl, ?_⟩
  rw [World.cell?_of_block (w := w) (hg.block b (lt_of_cell hcell) (hne b rfl))]
  exact hcell

theorem bulk_row {H : Type} {d : DataW H} {zs : List Int} (h : d = .nil ∧ zs = [] ∨ ∃ sp, d = .slice (lits .i32 zs) sp) : zs.length ≤ Rows.uptoBulk d := by
  rcases h with ⟨rfl, rfl⟩ | ⟨sp, rfl⟩
  · simp
  · have e : ∀ zs : List Int, Rows.uptoBulkAll (lits .i32 zs : List (DataW H)) = zs.length := fun zs => by
      induction zs with
      | nil => rfl
      | cons z zs ih => simp only [lits, List.map_cons, Rows.uptoBulkAll, Rows.uptoBulk, List.length_cons] at ih ⊢; omega
    rw [Rows.uptoBulk, e]
    omega

set_option maxHeartbeats 4000000 in
set_option maxRecDepth 100000 in
theorem back_broken (w : World) {ad : Nat → Addr} (hS : Std ad w) (s : ByteArray) (hs : s.size ≤ 1048576) (hv : brk s.data.toList ≠ s.size)
    (v1 : Value) (zs1 : List Int) (hv1 : Row32 w v1 zs1) (hl1 : zs1.length ≤ 1048576) (v2 : Value) (zs2 : List Int) (hv2 : Row32 w v2 zs2) (hl2 : zs2.length ≤ 1048576) :
    Calls Tryd.prog 6 #[.string s, v1, v2] w fun e w' => e = .returned (.bool true) ∧ Below w.heap.size w w' := by
  have L := lives_any w hS
  have c1 := fun W (hW : Below w.heap.size w W) => from_below hW (list_no s W (hS.below hW) (by omega) hv)
  rcases text_is hS v1 zs1 hv1 hl1 with ⟨rs, rfl, hrs, cT⟩ | cT
  · have hcnt := txt_size rs
    have hle := encs_le rs hrs
    rw [ints_length] at hl1
    have cL := fun W (hW : Below w.heap.size w W) => list_ok (a := ad) (txt rs) W (hS.below hW) (by omega) (txt_brk hrs)
    rw [txt_scs hrs] at cL
    have cS1 := fun v W (hW : Below w.heap.size w W) (h : Row32 W v (ints rs)) => from_below hW (same_any v v1 (ints rs) (ints rs) W h (hv1.below hW) (by rw [ints_length]; omega) (by rw [ints_length]; omega))
    simp only [decide_true] at cS1
    rcases text_is hS v2 zs2 hv2 hl2 with ⟨qs, rfl, hqs, cO⟩ | cO
    · have cS2 := fun W (hW : Below w.heap.size w W) => from_below hW (same_any v1 v2 (ints rs) (ints qs) W (hv1.below hW) (hv2.below hW) (by rw [ints_length]; omega) (by omega))
      obtain ⟨q, hq⟩ : ∃ q, decide (ints rs = ints qs) = q := ⟨_, rfl⟩
      have hne : ((txt rs).toList == (txt qs).toList) = q := by
        rw [← hq, ByteArray.toList_eq, ByteArray.toList_eq]
        by_cases h : rs = qs
        · subst h; simp
        · have h1 : (txt rs).data.toList ≠ (txt qs).data.toList := fun e => h (by have := congrArg scs e; rwa [txt_scs hrs, txt_scs hqs] at this)
          have h2 : ints rs ≠ ints qs := fun e => h (by have := congrArg (List.map Int.toNat) e; simpa [ints, Function.comp_def] using this)
          rw [decide_eq_false h2]
          exact beq_eq_false_iff_ne.2 h1
      rw [hq] at cS2
      obtain ⟨T, hT⟩ : ∃ T, txt rs = T := ⟨_, rfl⟩
      obtain ⟨U, hU⟩ : ∃ T, txt qs = T := ⟨_, rfl⟩
      rw [hT, hU] at hne
      rw [hT] at cL
      unfold TextIs at cT cO
      rw [hT] at cT
      rw [hU] at cO
      clear hv1 hv2 hl1 hl2 hq hT hU hle hcnt hqs hv hs hS
      cases q
      all_goals
        go_enter Tryd.func6, Tryd.ntmps6
        go_wp2_with fail
        refine L.mono ?_; rintro e w1 ⟨rfl, b1⟩
        go_wp2_with fail
        refine (c1 _ b1).mono ?_; rintro e w2 ⟨rfl, b2⟩
        go_wp2_with fail
        refine (cT _ b2).mono ?_; rintro e w3 ⟨rfl, -, b3⟩
        go_wp2_with fail
        refine (cL _ b3).mono ?_; rintro e w4 ⟨v, rfl, hown, k4⟩
        have b4 := b3.trans (k4.mono b3.size)
        go_wp2_with fail
        refine (cO _ b4).mono ?_; rintro e w5 ⟨rfl, k5, b5⟩
        go_wp2_with fail
        refine (cS1 _ _ b5 ((owns_row32 hown).below k5)).mono ?_; rintro e w6 ⟨rfl, b6⟩
        go_wp2_with fail
        refine (cS2 _ b6).mono ?_; rintro e w7 ⟨rfl, b7⟩
        go_wp2
        go_ret
        exact ⟨rfl, b7⟩
    · obtain ⟨T, hT⟩ : ∃ T, txt rs = T := ⟨_, rfl⟩
      rw [hT] at cL
      unfold TextIs at cT cO
      rw [hT] at cT
      clear hv1 hv2 hl1 hl2 hT hle hcnt hv hs hS
      go_enter Tryd.func6, Tryd.ntmps6
      go_wp2_with fail
      refine L.mono ?_; rintro e w1 ⟨rfl, b1⟩
      go_wp2_with fail
      refine (c1 _ b1).mono ?_; rintro e w2 ⟨rfl, b2⟩
      go_wp2_with fail
      refine (cT _ b2).mono ?_; rintro e w3 ⟨rfl, -, b3⟩
      go_wp2_with fail
      refine (cL _ b3).mono ?_; rintro e w4 ⟨v, rfl, hown, k4⟩
      have b4 := b3.trans (k4.mono b3.size)
      go_wp2_with fail
      refine (cO _ b4).mono ?_; rintro e w5 ⟨rfl, k5, b5⟩
      go_wp2_with fail
      refine (cS1 _ _ b5 ((owns_row32 hown).below k5)).mono ?_; rintro e w6 ⟨rfl, b6⟩
      go_wp2
      go_ret
      exact ⟨rfl, b6⟩
  · unfold TextIs at cT
    clear hv1 hv2 hl1 hl2 hv hs hS
    go_enter Tryd.func6, Tryd.ntmps6
    go_wp2_with fail
    refine L.mono ?_; rintro e w1 ⟨rfl, b1⟩
    go_wp2_with fail
    refine (c1 _ b1).mono ?_; rintro e w2 ⟨rfl, b2⟩
    go_wp2_with fail
    refine (cT _ b2).mono ?_; rintro e w3 ⟨rfl, -, b3⟩
    go_wp2
    go_ret
    exact ⟨rfl, b3⟩

theorem own_last {w : World} {B g n cap : Nat} {zs : List Int} {z : Int} (h : w.ownsRow B 21 1 (.slice (some ⟨g, 0, none⟩) (n + 1) cap) (n + 1) (cells32 zs ++ [.int .i32 z])) (hl : zs.length = n) : w.cell? ⟨g, n, none⟩ = some (.int .i32 z) := by
  rw [cells32_snoc] at h
  have := (own_at h n (by omega)).1
  rw [this, ← hl]
  simp [List.getD]
theorem own_mono {w : World} {B C e n : Nat} {v : Value} {xs : List Value} (h : w.ownsRow B e 1 v n xs) (hb : C ≤ B) : w.ownsRow C e 1 v n xs := by
  refine ⟨h.1, ?_⟩
  rcases h.2 with h0 | ⟨g, cap, cur, h1, h2, h3⟩
  · exact .inl h0
  · exact .inr ⟨g, cap, cur, h1, Nat.le_trans hb h2, h3⟩
theorem own_val' {w : World} {B : Nat} {v : Value} {m : Nat} {xs : List Value} (h : w.ownsRow B 21 1 v m xs) (hm : 0 < m) : ∃ g cap, v = .slice (some ⟨g, 0, none⟩) m cap := by
  rcases h.2 with ⟨_, h0⟩ | ⟨g, cap, cur, h1, _⟩
  · omega
  · exact ⟨g, cap, h1⟩

set_option maxHeartbeats 4000000 in
set_option maxRecDepth 100000 in
theorem back_whole (w : World) {ad : Nat → Addr} (hS : Std ad w) (ss : List Nat) (hss : scals ss) (hs : (txt ss).size ≤ 1048576)
    (v1 : Value) (zs1 : List Int) (hv1 : Row32 w v1 zs1) (hl1 : zs1.length ≤ 1048576) (v2 : Value) (zs2 : List Int) (hv2 : Row32 w v2 zs2) (hl2 : zs2.length ≤ 1048576) :
    Calls Tryd.prog 6 #[.string (txt ss), v1, v2] w fun e w' => e = .returned (.bool true) ∧ Below w.heap.size w w' := by
  have L := lives_any w hS
  have hcn := txt_count hss
  have c1 := fun W (hW : Below w.heap.size w W) => list_ok (a := ad) (txt ss) W (hS.below hW) (by omega) (txt_brk hss)
  rw [txt_scs hss] at c1
  have cU := fun v W (hW : Below w.heap.size w W) (h : Row32 W v (ints ss)) => from_here hW (text_ok (a := ad) v ss W h hss (by omega))
  obtain ⟨n, hn⟩ : ∃ n, ss.length = n := ⟨_, rfl⟩
  have hil : (ints ss).length = n := by rw [ints_length, hn]
  obtain ⟨S, hS'⟩ : ∃ S, txt ss = S := ⟨_, rfl⟩
  have hst : (txt ss : ByteArray) = ⟨(encs ss).toArray⟩ := rfl
  rw [← hst] at cU
  have HS : Hid (Std ad w ∧ Row32 w v1 zs1 ∧ Row32 w v2 zs2 ∧ zs1.length ≤ 1048576 ∧ zs2.length ≤ 1048576) := ⟨hS, hv1, hv2, hl1, hl2⟩
  rw [hS'] at c1 cU hs hcn ⊢
  have hnb : n ≤ 1048576 := by omega
  have HN : Hid ((ints ss).length = n) := hil
  obtain ⟨i0, z0, hi, hz, hz1, hz2, hz3⟩ := info32
  have hZ : Hid (i0.zero = some z0 ∧ i0.size = 1 ∧ i0.bytes = 4 ∧ z0.cells.size = 1) := ⟨hz, hz1, hz2, hz3⟩
  clear hz hz1 hz2 hz3 hcn hs hv1 hv2 hl1 hl2 hS hst hil hn hss hS'
  go_enter Tryd.func6, Tryd.ntmps6
  go_wp2_with fail
  refine L.mono ?_; rintro e w1 ⟨rfl, b1⟩
  clear L
  go_wp2_with fail
  refine (c1 _ b1).mono ?_; rintro e w2 ⟨va, rfl, own1, k2⟩
  have b2 := b1.trans (k2.mono b1.size)
  have own1' : w2.ownsRow w.heap.size 21 1 va n (cells32 (ints ss)) := by rw [← HN.out]; exact own_mono own1 b1.size
  obtain ⟨p, cap, rfl, hp⟩ := own_form own1'
  go_wp2_with fail
  refine (c1 _ b2).mono ?_; rintro e w3 ⟨vm, rfl, own2, k3⟩
  clear c1
  have b3 := b2.trans (k3.mono b2.size)
  go_wp2_with fail
  refine (cU _ _ b3 (owns_row32 (owns_below own1 k3))).mono ?_; rintro e w4 ⟨rfl, k4, b4⟩
  have hfar : Hid (∀ q g, vm.ownBlock = some q → p = some ⟨g, 0, none⟩ → q ≠ g) := fun q g h1 h2 e => by
    have h3 := (owns_block own2 q h1).1
    obtain ⟨_, cur, h4⟩ := owns_block own1 g (by rw [h2]; rfl)
    have := (Array.getElem?_eq_some_iff.1 h4).1
    omega
  have own4 := owns_below (owns_below own1' k3) k4
  have rowm := (owns_row32 own2).below k4
  clear own1 own1' own2 k2 k3 k4 b1 b2 b3
  go_wp2_with fail
  go_loopw [48] (fun i wr => ∃ (k : Nat) (zs : List Int), k ≤ n ∧ i = .int .i64 k ∧ zs.length = n ∧ wr.ownsRow w.heap.size 21 1 (.slice p n cap) n (cells32 zs) ∧ Row32 wr vm (ints ss) ∧ Below w.heap.size w wr) (fun i _ => n - (RowKit.intOf i).toNat)
  case atStart => exact ⟨0, ints ss, Nat.zero_le _, rfl, HN.out, own4, rowm, b4⟩
  case round =>
    clear own4 rowm b4
    obtain ⟨k, zs, hk, rfl, hlz, own5, rowm5, b5⟩ := hrel
    by_cases hlt : k < n
    · obtain ⟨g, rfl⟩ := own_have own5 hlt
      obtain ⟨hcell, hfr, hg⟩ := own_at own5 k hlt
      have HO : Hid (wr.ownsRow w.heap.size 21 1 (.slice (some ⟨g, 0, none⟩) n cap) n (cells32 zs) ∧ Row32 wr vm (ints ss) ∧ Below w.heap.size w wr ∧ zs.length = n ∧ w.heap.size ≤ g) := ⟨own5, rowm5, b5, hlz, hg⟩
      clear own5 rowm5 b5 hlz hg hp cU
      go_wp2_with fail
      go_roundw
      case rel =>
        obtain ⟨own5, rowm5, b5, hlz, hg⟩ := HO.out
        exact ⟨k + 1, zs.set k 1, by omega, by go_num, by rw [List.length_set]; exact hlz, own_set own5 k 1, row32_far rowm5 (fun q hq => hfar.out q g hq rfl), b5.setCell (p := ⟨g, k, none⟩) hg _⟩
      case measure => simp [RowKit.intOf]; omega
    · obtain rfl : n = k := by omega
      have b5' := b5.alloc b5.size (.cells #[.int .i32 2] 21)
      have ownW : (wr.alloc (.cells #[.int .i32 2] 21)).ownsRow w.heap.size 21 1 (.slice p n cap) n (cells32 zs) := owns_below own5 ((Below.refl _ _).alloc (Nat.le_refl _) _)
      have rowW := rowm5.below ((Below.refl wr.heap.size wr).alloc (Nat.le_refl _) (.cells #[.int .i32 2] 21))
      clear hk hlt
      go_wp2_with (first
        | (at_builtin; go_loud (refine wpList_append_own _ rfl _ _ 30 rfl w.heap.size 21 i0 z0 1 4 Tryd.underlying30 hi hZ.out.1 hZ.out.2.1 hZ.out.2.2.1 hZ.out.2.2.2 (by decide) (.slice p n cap) _ _ rfl ownW ⟨wr.heap.size, 0, none⟩ 1 1 [.int .i32 2] rfl rfl (by intro j u hj; cases j with | zero => (simp at hj; subst hj; simp [Addr.add]) | succ j => simp at hj) (fun u hu => by rw [List.mem_singleton.1 hu]; rfl) (by unfold maxLen; omega) (by omega) (by have := b5'.size; omega) ?_; intro v3 w6 own6 gr6 _; obtain ⟨g3, cap3, rfl⟩ := own_val' own6 (by omega); have b6 := b5'.grown gr6 b5'.size (fun k hk => (owns_block own5 k hk).1); have rowm6 := row32_grown rowW gr6 (fun q hq e => by (obtain ⟨g, rfl⟩ : ∃ g, p = some ⟨g, 0, none⟩ := (by (rcases p with _ | ⟨g, o, t⟩ <;> simp [Value.ownBlock] at e; obtain ⟨rfl, rfl, _⟩ := hp g o t rfl; exact ⟨g, rfl⟩))); simp [Value.ownBlock] at e; exact hfar.out q g hq rfl e); have h26 := own_last own6 hlz)))
      refine (cU _ _ b6 rowm6).mono ?_; rintro e w7 ⟨rfl, k7, bB⟩
      have h27 : w7.cell? ⟨g3, n, none⟩ = some (.int .i32 2) := (k7.cell (lt_of_cell h26)).trans h26
      clear own5 rowm5 b5 b5' ownW rowW own6 gr6 b6 rowm6 h26 k7 hfar cU hp
      go_wp2_with fail
      obtain ⟨hS, hv1, hv2, hl1, hl2⟩ := HS.out
      rcases text_is hS v1 zs1 hv1 hl1 with ⟨rs, rfl, hrs, cT⟩ | cT
      · have hcnt := txt_size rs
        have hle := encs_le rs hrs
        rw [ints_length] at hl1
        have cL := fun W (hW : Below w.heap.size w W) => list_ok (a := ad) (txt rs) W (hS.below hW) (by omega) (txt_brk hrs)
        rw [txt_scs hrs] at cL
        have cS1 := fun v W (hW : Below w.heap.size w W) (h : Row32 W v (ints rs)) => from_below hW (same_any v v1 (ints rs) (ints rs) W h (hv1.below hW) (by rw [ints_length]; omega) (by rw [ints_length]; omega))
        simp only [decide_true] at cS1
        rcases text_is hS v2 zs2 hv2 hl2 with ⟨qs, rfl, hqs, cO⟩ | cO
        · have cS2 := fun W (hW : Below w.heap.size w W) => from_below hW (same_any v1 v2 (ints rs) (ints qs) W (hv1.below hW) (hv2.below hW) (by rw [ints_length]; omega) (by omega))
          obtain ⟨q, hq⟩ : ∃ q, decide (ints rs = ints qs) = q := ⟨_, rfl⟩
          have hne : ((txt rs).toList == (txt qs).toList) = q := by
            rw [← hq, ByteArray.toList_eq, ByteArray.toList_eq]
            by_cases h : rs = qs
            · subst h; simp
            · have h1 : (txt rs).data.toList ≠ (txt qs).data.toList := fun e => h (by have := congrArg scs e; rwa [txt_scs hrs, txt_scs hqs] at this)
              have h2 : ints rs ≠ ints qs := fun e => h (by have := congrArg (List.map Int.toNat) e; simpa [ints, Function.comp_def] using this)
              rw [decide_eq_false h2]
              exact beq_eq_false_iff_ne.2 h1
          rw [hq] at cS2
          obtain ⟨T, hT⟩ : ∃ T, txt rs = T := ⟨_, rfl⟩
          obtain ⟨U, hU⟩ : ∃ T, txt qs = T := ⟨_, rfl⟩
          rw [hT, hU] at hne
          rw [hT] at cL
          unfold TextIs at cT cO
          rw [hT] at cT
          rw [hU] at cO
          clear hv1 hv2 hl1 hl2 hq hT hU hle hcnt hqs
          cases q
          all_goals
            refine (cT _ bB).mono ?_; rintro e w3 ⟨rfl, -, b3⟩
            go_wp2_with fail
            refine (cL _ b3).mono ?_; rintro e w4 ⟨v, rfl, hown, k4⟩
            have b4 := b3.trans (k4.mono b3.size)
            go_wp2_with fail
            refine (cO _ b4).mono ?_; rintro e w5 ⟨rfl, k5, b5⟩
            go_wp2_with fail
            refine (cS1 _ _ b5 ((owns_row32 hown).below k5)).mono ?_; rintro e w6 ⟨rfl, b6⟩
            go_wp2_with fail
            refine (cS2 _ b6).mono ?_; rintro e w7 ⟨rfl, b7⟩
            go_wp2
            go_ret
            exact ⟨rfl, b7⟩
        · obtain ⟨T, hT⟩ : ∃ T, txt rs = T := ⟨_, rfl⟩
          rw [hT] at cL
          unfold TextIs at cT cO
          rw [hT] at cT
          clear hv1 hv2 hl1 hl2 hT hle hcnt
          refine (cT _ bB).mono ?_; rintro e w3 ⟨rfl, -, b3⟩
          go_wp2_with fail
          refine (cL _ b3).mono ?_; rintro e w4 ⟨v, rfl, hown, k4⟩
          have b4 := b3.trans (k4.mono b3.size)
          go_wp2_with fail
          refine (cO _ b4).mono ?_; rintro e w5 ⟨rfl, k5, b5⟩
          go_wp2_with fail
          refine (cS1 _ _ b5 ((owns_row32 hown).below k5)).mono ?_; rintro e w6 ⟨rfl, b6⟩
          go_wp2
          go_ret
          exact ⟨rfl, b6⟩
      · unfold TextIs at cT
        clear hv1 hv2 hl1 hl2
        refine (cT _ bB).mono ?_; rintro e w3 ⟨rfl, -, b3⟩
        go_wp2
        go_ret
        exact ⟨rfl, b3⟩

theorem back_core (w : World) {ad : Nat → Addr} (hS : Std ad w) (s : ByteArray) (hs : s.size ≤ 1048576)
    (v1 : Value) (zs1 : List Int) (hv1 : Row32 w v1 zs1) (hl1 : zs1.length ≤ 1048576) (v2 : Value) (zs2 : List Int) (hv2 : Row32 w v2 zs2) (hl2 : zs2.length ≤ 1048576) :
    Calls Tryd.prog 6 #[.string s, v1, v2] w fun e w' => e = .returned (.bool true) ∧ Below w.heap.size w w' := by
  by_cases hv : brk s.data.toList = s.size
  · obtain ⟨e, h⟩ := txt_of hv
    rw [e] at hs ⊢
    exact back_whole w hS _ h hs v1 zs1 hv1 hl1 v2 zs2 hv2 hl2
  · exact back_broken w hS s hs hv v1 zs1 hv1 hl1 v2 zs2 hv2 hl2

set_option maxRecDepth 100000 in
theorem scalarsBack_contract (H : Type) (enc : TypeId × Value → H) (W : World) (base : Nat) (args : Array Value) (ds gs : List (DataW H)) (before : List MemPlace)
    (hval : ∀ (j : Nat) t v, Tryd.f6.params[j]? = some t → args[j]? = some v → Value.okWide Tryd.prog W .any base t v)
    (hW : DataW.Whole enc Tryd.prog Tryd.f6.params.toList Rows.scalarsBackSpec.vars false W args.toList ds gs before)
    (hcond : Rows.uptoSmall H (ds ++ gs) = true)
    (hsz : (DataW.weightsEach Tryd.prog (Tryd.f6.params.toList ++ Rows.scalarsBackSpec.plain.varTypes Tryd.prog) (ds ++ gs)).all (· ≤ reachBytes) = true) (hL : laidMetH Tryd.prog laidL W) :
    Calls Tryd.prog 6 args W fun e W' => ∃ v, e = .returned v ∧ Rows.scalarsBackSpec.post enc Tryd.prog Tryd.f6 false true false false W args v W' := by
  have hW' := hW
  obtain ⟨p, q, hA0, hV, rfl, _, _⟩ := hW
  have hA : DataW.TrodAll enc Tryd.prog W 0 (fun _ => true) true Tryd.f6.params.toList args.toList ds p := hA0
  rw [Tryd.params6] at hA hval hsz
  obtain ⟨v0, vs0, d0, ds0, p0, q0, hargs, rfl, rfl, h0, r0⟩ := trodAll_cons hA
  obtain ⟨v1, vs1, d1, ds1, p1, q1, rfl, rfl, rfl, h1, r1⟩ := trodAll_cons r0
  obtain ⟨v2, vs2, d2, ds2, p2, q2, rfl, rfl, rfl, h2, r2⟩ := trodAll_cons r1
  obtain ⟨rfl, rfl, rfl⟩ := trodAll_nil r2
  obtain rfl : args = #[v0, v1, v2] := by cases args; simp_all
  obtain ⟨rfl, rfl⟩ := trodVars_none hV
  obtain ⟨x0, rfl, rfl, rfl, hs0⟩ := open_string Tryd.underlying9 (hval 0 9 v0 rfl rfl) h0
  have hx0 : x0.size ≤ 140737488351232 := by
    have := sized_string hsz (j := 0) (t := 9) rfl rfl
    rw [size_toList] at this; exact this
  have hu0 : x0.size ≤ 1048576 := by
    have := of_decide_eq_true hcond
    simp only [Rows.uptoBulkAll, Rows.uptoBulk, List.append_nil, size_toList] at this
    omega
  obtain ⟨z1, hr1, hl1, hrow1, hlt1, hd1, hsrc1⟩ := open_row32 (hval 1 30 v1 rfl rfl) h1 hsz (j := 1) rfl rfl
  have hu1 : z1.length ≤ 1048576 := by
    have h1 := of_decide_eq_true hcond
    have h2 := bulk_row hd1
    simp only [Rows.uptoBulkAll, List.append_nil] at h1
    omega
  obtain ⟨z2, hr2, hl2, hrow2, hlt2, hd2, hsrc2⟩ := open_row32 (hval 2 30 v2 rfl rfl) h2 hsz (j := 2) rfl rfl
  have hu2 : z2.length ≤ 1048576 := by
    have h1 := of_decide_eq_true hcond
    have h2 := bulk_row hd2
    simp only [Rows.uptoBulkAll, List.append_nil] at h1
    omega
  obtain ⟨ad, hS⟩ := std_of_laid hL
  refine (back_core W hS x0 hu0 v1 z1 hrow1 hu1 v2 z2 hrow2 hu2).mono fun e W' ⟨he, hb⟩ => ?_
  subst he
  exact ⟨_, rfl, _, _, _, _, _, _, hW', trodAll_mk1 (shut_bool Tryd.underlying4 _), (trodAll_cons_mk (shut_string Tryd.underlying9 hs0) (trodAll_cons_mk (hb.trod laidOutP (by kernel_rfl) (of_decide_eq_true (by kernel_rfl)) h1 hlt1) (trodAll_cons_mk (hb.trod laidOutP (by kernel_rfl) (of_decide_eq_true (by kernel_rfl)) h2 hlt2) trodAll_mk0))), rfl, hb.frame _, fun h => by cases h⟩

theorem scalarsBack_reads (os : Os) {H : Type} (enc : TypeId × Value → H) : ∃ x, DataW.whole enc Tryd.prog ((World.laidAll Tryd.prog os laidL).forCall (fun _ _ => 0) ⟨#[], #[.string ByteArray.empty, .slice none 0 0, .slice none 0 0], []⟩).memory Tryd.f6.params.toList Rows.scalarsBackSpec.vars false #[(.string ByteArray.empty : Value), .slice none 0 0, .slice none 0 0].toList 8 = some x ∧ x.1 = [.lit (.string []), .nil, .nil] ∧ x.2.1 = [] :=
  ⟨([.lit (.string []), .nil, .nil], [], []), by kernel_rfl, rfl, rfl⟩

set_option maxRecDepth 100000 in
theorem scalarsBack_lifted (os : Os) (started : os.Started) (H : Type) (enc : TypeId × Value → H) (F : Stop.Interp) :
    ReturnsInHanded {} Tryd.checked os 6 .any ((Rows.OpenSpec.upto Rows.scalarsBackSpec).preRow enc Tryd.prog Tryd.f6 Rows.scalarsBackUptoRow.domain false laidL) (((Rows.OpenSpec.upto Rows.scalarsBackSpec).at F).post enc Tryd.prog Tryd.f6 false true false false) := by
  obtain ⟨⟨xd, xg, xp⟩, hx, e1, e2⟩ := scalarsBack_reads os enc
  simp only at e1 e2
  subst e1; subst e2
  refine returnsInHanded_of_row (C := Tryd.checked) (s := (Rows.OpenSpec.upto Rows.scalarsBackSpec)) own started (by kernel_rfl) Tryd.func6
    ⟨World.laidAll Tryd.prog os laidL, fun _ _ => 0, ⟨#[], #[.string ByteArray.empty, .slice none 0 0, .slice none 0 0], []⟩, World.laidAll_os _ _ _, World.shaped_of_ZipB (by kernel_rfl) (by kernel_rfl), rfl, (Input.okWide_of_okWideB (by kernel_rfl)).2,
      OpenSpec.preRow_of_cond 8 hx (by kernel_rfl) (fun k hk => by cases hk; kernel_rfl) (by kernel_rfl) (wit_met os _), by
        simp only [Assume.holds]
        exact ⟨by simp, by simp, fun _ => Modest.zero, by simp, by simp⟩⟩ ?_
  intro W base args ds gs before hval hW _ hcond hsz hL _ _
  exact scalarsBack_contract H enc W base args ds gs before hval hW (hcond _ rfl) hsz hL

theorem scalarsBack_said : Rows.ScalarsBackUptoSaid :=
  OpenClaim.holds_of_cond 6 Tryd.f6 rfl rfl rfl rfl rfl rfl rfl ⟨rfl, rfl, rfl, rfl, rfl⟩ rfl rfl rfl rfl rfl (by kernel_rfl) Tryd.func6 (by kernel_rfl)
    (of_decide_eq_true (by kernel_rfl)) (by unfold Func.isWrapper; first | (rw [if_pos (by decide +kernel)]; kernel_rfl) | (rw [if_neg (by decide +kernel)]; exact ⟨rfl, rfl⟩))
    (fun os started H enc _ F => by rw [OpenClaim.pre_eq_preRow]; exact scalarsBack_lifted os started H enc F)

theorem scalarsBack_plain (f : FuncId) (fn : Func) (hf : Tryd.pinned.checked.prog.funcNamed Rows.scalarsBackUptoRow.func = some f) (hfn : Tryd.pinned.checked.prog.funcs[f]? = some fn) :
    true = Tryd.pinned.checked.prog.looks [] ∧ ∀ (j : Nat) t, fn.params[j]? = some t → Tryd.pinned.checked.prog.wantsStandIn t = false := by
  obtain rfl : f = 6 := Option.some.inj ((show Tryd.prog.funcNamed Rows.scalarsBackUptoRow.func = some 6 by kernel_rfl).symm.trans hf) |>.symm
  obtain rfl : fn = Tryd.f6 := (Option.some.inj (Tryd.func6.symm.trans hfn)).symm
  refine ⟨by kernel_rfl, fun j t ht => ?_⟩
  rw [Tryd.params6] at ht
  have hm : t ∈ ([9, 30] : List Nat) := by have := Array.mem_of_getElem? ht; simp at this; simp; omega
  have hall : (([9, 30] : List Nat).all fun u => !Tryd.prog.wantsStandIn u) = true := by kernel_rfl
  exact (show Tryd.prog.wantsStandIn t = false by simpa using List.all_eq_true.1 hall t hm)

theorem scalarsBack_card : Rows.ScalarsBackUptoCardSaid :=
  Claim7.holds_tied_plain_at .later [] _ _ _ _ scalarsBack_said (fun _ h => by cases h) (by kernel_rfl) (fun _ h => by cases h) scalarsBackUpto_row_tie rfl ⟨rfl, rfl⟩ (by kernel_rfl) rfl scalarsBack_plain (by kernel_rfl)
end Go.Proofs.YtdnelmbihblakaaDoor
