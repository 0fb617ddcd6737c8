/- What vellumref03.whole, Over and Between answer. -/
import Derived.Test.YtigmhbgdnmkooaaDoorRh
import Derived.Test.YtigmhbgdnmkooaaDoorAx
namespace Go.Proofs.YtigmhbgdnmkooaaDoor
open Go Go.RowKit Go.Lib
set_option linter.unusedVariables false

def wholeL (L : List A2) : List A2 := L.filter fun q => !(q.2.1 == 0)
def overL (A : List A2) (first : Bool) (B : List A2) : List A2 := B.filter fun q => !first || !(look q.1 A).isSome
def betL (A B : List A2) (J : List A2) : List A2 := J.filterMap fun x => if (look x.1 A).getD z0 = (look x.1 B).getD z0 then none else some (x.1, (look x.1 B).getD z0)
theorem filter_step {p : A2 → Bool} {L : List A2} {k : Nat} {q : A2} (hq : L[k]? = some q) : (L.take (k + 1)).filter p = (L.take k).filter p ++ (if p q then [q] else []) := by
  rw [List.take_add_one, hq, List.filter_append]
  simp only [Option.toList, List.filter_cons, List.filter_nil]
theorem filterMap_step {p : A2 → Option A2} {L : List A2} {k : Nat} {q : A2} (hq : L[k]? = some q) : (L.take (k + 1)).filterMap p = (L.take k).filterMap p ++ (p q).toList := by
  rw [List.take_add_one, hq, List.filterMap_append]
  congr 1

set_option maxHeartbeats 2000000 in
set_option maxRecDepth 100000 in
theorem whole_any (v : Value) (L : List A2) (w : World) (hv : RowA w v L) (hl : L.length ≤ 1048576) :
    Calls Tryd.prog 53 #[v] w fun r w' => ∃ v', r = .returned v' ∧ OwnA w' w.heap.size v' (wholeL L) ∧ Below w.heap.size w w' := by
  obtain ⟨n, hn⟩ : ∃ n, L.length = n := ⟨_, rfl⟩
  obtain ⟨p, cap, rfl, hcap, hc⟩ := hv
  rw [hn] at hl hcap ⊢
  have HN : Hid (L.length = n) := hn
  have HC : Hid _ := hc
  clear hc hn
  have oE := own_empty' w w.heap.size (Nat.le_refl _)
  have bE := (Below.refl w.heap.size w).alloc (Nat.le_refl _) (.cells #[] 48)
  go_enter Tryd.func53, Tryd.ntmps53
  go_wp2_with fail
  obtain ⟨v0, hv0⟩ : ∃ v0 : Value, v0 = .slice (some ⟨w.heap.size, 0, none⟩) 0 0 := ⟨_, rfl⟩
  rw [← hv0] at oE ⊢
  clear hv0
  go_loopw [3, 9] (fun out i wr => ∃ k : Nat, k ≤ n ∧ i = .int .i64 k ∧ OwnA wr w.heap.size out (wholeL (L.take k)) ∧ Below w.heap.size w wr) (fun _ i _ => n - (RowKit.intOf i).toNat)
  case atStart => exact ⟨0, Nat.zero_le _, rfl, oE, bE⟩
  case round =>
    obtain ⟨k, hk, rfl, own, bw⟩ := hrel
    by_cases hlt : k < n
    · have hltI : (k : Int) < n := by omega
      obtain ⟨q, hq⟩ : ∃ q, L[k]? = some q := ⟨_, List.getElem?_eq_getElem (by rw [HN.out]; exact hlt)⟩
      obtain ⟨b, off, rfl, hp⟩ := HC.out k q hq
      obtain ⟨c0, c1, c2, c3⟩ := hp.below bw
      obtain ⟨qk, qx, qn, qt⟩ := q
      simp only at c0 c1 c2 c3
      have hlen : Hid ((wholeL (L.take k)).length ≤ 1048676) := by show _ ≤ _; have h1 := (show (wholeL (L.take k)).length ≤ (L.take k).length from List.length_filter_le _ _); rw [List.length_take] at h1; omega
      have HO : Hid (OwnA wr w.heap.size u3 (wholeL (L.take k))) := own
      have HS := filter_step (p := fun q => !(q.2.1 == 0)) (L := L) (k := k) hq
      clear hp hq own
      by_cases hx0 : qx = 0
      · have hx : (qx != 0) = false := by simpa using hx0
        have HR : Hid (wholeL (L.take (k + 1)) = wholeL (L.take k)) := by
          show _ = _
          unfold wholeL
          rw [HS]; simp [hx0]
        clear hx0 HS
        go_wp2_with fail
        go_roundw
        case rel => exact ⟨k + 1, by omega, by go_num, by rw [HR.out]; exact owns_below HO.out ((Below.refl _ _).alloc (Nat.le_refl _) _), bw.alloc bw.size _⟩
        case measure => simp [RowKit.intOf]; omega
      · have hx : (qx != 0) = true := by simpa using hx0
        have HR : Hid (wholeL (L.take (k + 1)) = wholeL (L.take k) ++ [(qk, qx, qn, qt)]) := by
          show _ = _
          unfold wholeL
          rw [HS]; simp [hx0]
        clear hx0 HS
        have o6 := owns_below HO.out (((Below.refl wr.heap.size wr).alloc (Nat.le_refl _) (.cells #[.string qk, .int .i64 qx, .int .i64 qn, .string qt] 48)).alloc (by simp) (.cells #[.string qk, .int .i64 qx, .int .i64 qn, .string qt] 48))
        have b7 := (bw.alloc bw.size (.cells #[.string qk, .int .i64 qx, .int .i64 qn, .string qt] 48)).alloc (by have := bw.size; simp; omega) (.cells #[.string qk, .int .i64 qx, .int .i64 qn, .string qt] 48)
        have hge : ∀ j, u3.ownBlock = some j → w.heap.size ≤ j := fun j hj => (owns_block o6 j hj).1
        go_wp2_with (at_builtin; refine wpList_append_at rfl (.tmp 17) (.tmp 19) rfl w.heap.size u3 (wholeL (L.take k)) rfl o6 (wr.heap.size + 1) 1 (qk, qx, qn, qt) rfl ⟨by simp, by simp, by simp, by simp⟩ hlen.out b7.size ?_; intro v' w6 own' gr')
        have b8 := b7.grown gr' b7.size (fun j hj => hge j hj)
        go_roundw
        case rel => exact ⟨k + 1, by omega, by go_num, by rw [HR.out]; exact own', b8⟩
        case measure => simp [RowKit.intOf]; omega
    · have hltI : ¬ (k : Int) < n := by omega
      have HO : Hid (OwnA wr w.heap.size u3 (wholeL L)) := by
        show OwnA _ _ _ _
        rw [List.take_of_length_le (by rw [HN.out]; omega)] at own
        exact own
      clear own
      go_wp2
      go_ret
      exact ⟨_, rfl, HO.out, bw⟩

set_option maxHeartbeats 2000000 in
set_option maxRecDepth 100000 in
theorem over_any (va v : Value) (A L : List A2) (first : Bool) (w : World) (hv : RowA w v L) (hl : L.length ≤ 1048576) (hA : RowA w va A) (lA : A.length ≤ 1048576) :
    Calls Tryd.prog 32 #[va, v, .bool first] w fun r w' => ∃ v', r = .returned v' ∧ OwnA w' w.heap.size v' (overL A first L) ∧ Below w.heap.size w w' := by
  obtain ⟨n, hn⟩ : ∃ n, L.length = n := ⟨_, rfl⟩
  have HH : Hid (∀ W, Below w.heap.size w W → ∀ key, Calls Tryd.prog 14 #[va, .string key] W fun r w' => r = .returned (.tuple #[plV ((look key A).getD z0), .bool (look key A).isSome]) ∧ Below W.heap.size W w') := fun W hW key => has_any va A key W (hA.below hW) (by omega)
  obtain ⟨pa, ca, rfl, _⟩ := hA.val
  clear hA lA
  obtain ⟨p, cap, rfl, hcap, hc⟩ := hv
  rw [hn] at hl hcap ⊢
  have HN : Hid (L.length = n) := hn
  have HC : Hid _ := hc
  clear hc hn
  have oE := own_empty' w w.heap.size (Nat.le_refl _)
  have bE := (Below.refl w.heap.size w).alloc (Nat.le_refl _) (.cells #[] 48)
  go_enter Tryd.func32, Tryd.ntmps32
  go_wp2_with fail
  obtain ⟨v0, hv0⟩ : ∃ v0 : Value, v0 = .slice (some ⟨w.heap.size, 0, none⟩) 0 0 := ⟨_, rfl⟩
  rw [← hv0] at oE ⊢
  clear hv0
  go_loopw [7, 15] (fun out i wr => ∃ k : Nat, k ≤ n ∧ i = .int .i64 k ∧ OwnA wr w.heap.size out (overL A first (L.take k)) ∧ Below w.heap.size w wr) (fun _ i _ => n - (RowKit.intOf i).toNat)
  case atStart => exact ⟨0, Nat.zero_le _, rfl, oE, bE⟩
  case round =>
    obtain ⟨k, hk, rfl, own, bw⟩ := hrel
    by_cases hlt : k < n
    · have hltI : (k : Int) < n := by omega
      obtain ⟨q, hq⟩ : ∃ q, L[k]? = some q := ⟨_, List.getElem?_eq_getElem (by rw [HN.out]; exact hlt)⟩
      obtain ⟨b, off, rfl, hp⟩ := HC.out k q hq
      obtain ⟨c0, c1, c2, c3⟩ := hp.below bw
      obtain ⟨qk, qx, qn, qt⟩ := q
      simp only at c0 c1 c2 c3
      have hlen : Hid ((overL A first (L.take k)).length ≤ 1048676) := by show _ ≤ _; have h1 := (show (overL A first (L.take k)).length ≤ (L.take k).length from List.length_filter_le _ _); rw [List.length_take] at h1; omega
      have HO : Hid (OwnA wr w.heap.size u7 (overL A first (L.take k))) := own
      have HS := filter_step (p := fun q => !first || !(look q.1 A).isSome) (L := L) (k := k) hq
      clear hp hq own
      have cH := fun W (hW : Below w.heap.size w W) => HH.out W hW qk
      have b1 := bw.alloc bw.size (.cells #[.string qk, .int .i64 qx, .int .i64 qn, .string qt] 48)
      obtain ⟨T, hT⟩ : ∃ T, (look qk A).isSome = T := ⟨_, rfl⟩
      obtain ⟨⟨p1, p2, p3⟩, hP⟩ : ∃ P, (look qk A).getD z0 = P := ⟨_, rfl⟩
      rw [hT, hP] at cH
      have bp : ∀ W, Below (wr.alloc (.cells #[.string qk, .int .i64 qx, .int .i64 qn, .string qt] 48)).heap.size (wr.alloc (.cells #[.string qk, .int .i64 qx, .int .i64 qn, .string qt] 48)) W → PairAt W wr.heap.size 0 (qk, qx, qn, qt) := fun W hW => PairAt.below (w := wr.alloc (.cells #[.string qk, .int .i64 qx, .int .i64 qn, .string qt] 48)) ⟨by simp, by simp, by simp, by simp⟩ hW
      have HT : Hid ((look qk A).isSome = T) := hT
      clear hT hP
      go_wp2_with fail
      refine (cH _ b1).mono ?_; rintro r w3 ⟨rfl, b3⟩
      obtain ⟨e0, e1, e2, e3⟩ := bp _ b3
      have b4 := b1.trans (b3.mono b1.size)
      have HO3 : Hid (OwnA w3 w.heap.size u7 (overL A first (L.take k))) := owns_below HO.out (Below.trans ((Below.refl wr.heap.size wr).alloc (Nat.le_refl _) _) (b3.mono (by simp)))
      have HB : Hid (wr.heap.size < w3.heap.size) := by show _ < _; exact lt_of_cell e0
      clear bp b3 HO c0 c1 c2 c3 cH b1 bw
      have b5 := b4.alloc b4.size (.cells #[.int .i64 p1, .int .i64 p2, .string p3] 36)
      have o5 := owns_below HO3.out ((Below.refl w3.heap.size w3).alloc (Nat.le_refl _) (.cells #[.int .i64 p1, .int .i64 p2, .string p3] 36))
      have h1 : ¬ wr.heap.size = w3.heap.size := by have := HB.out; omega
      have h2 : ¬ w3.heap.size = wr.heap.size := by have := HB.out; omega
      have bx := (Below.refl w3.heap.size w3).alloc (Nat.le_refl _) (.cells #[.int .i64 p1, .int .i64 p2, .string p3] 36)
      have x0 := (bx.cell (lt_of_cell e0)).trans e0
      have x1 := (bx.cell (lt_of_cell e1)).trans e1
      have x2 := (bx.cell (lt_of_cell e2)).trans e2
      have x3 := (bx.cell (lt_of_cell e3)).trans e3
      rw [Nat.zero_add] at x1 x2 x3
      clear bx
      by_cases hkeep : (!first || !T) = true
      · have HR : Hid (overL A first (L.take (k + 1)) = overL A first (L.take k) ++ [(qk, qx, qn, qt)]) := by
          show _ = _
          unfold overL
          rw [HS]; simp only [HT.out, hkeep, if_true]
        have hc : first = false ∨ (first = true ∧ T = false) := by
          cases first <;> cases T <;> simp at hkeep ⊢
        clear HS hkeep
        have o6 := owns_below o5 ((Below.refl _ _).alloc (Nat.le_refl _) (.cells #[.string qk, .int .i64 qx, .int .i64 qn, .string qt] 48))
        have b7 := b5.alloc b5.size (.cells #[.string qk, .int .i64 qx, .int .i64 qn, .string qt] 48)
        have hge : ∀ j, u7.ownBlock = some j → w.heap.size ≤ j := fun j hj => (owns_block o6 j hj).1
        rcases hc with rfl | ⟨rfl, rfl⟩
        · go_wp2_with (at_builtin; refine wpList_append_at rfl (.tmp 32) (.tmp 34) rfl w.heap.size u7 (overL A false (L.take k)) rfl o6 (w3.heap.size + 1) 1 (qk, qx, qn, qt) rfl ⟨by simp, by simp, by simp, by simp⟩ hlen.out b7.size ?_; intro v' w6 own' gr')
          have b8 := b7.grown gr' b7.size (fun j hj => hge j hj)
          go_roundw
          case rel => exact ⟨k + 1, by omega, by go_num, by rw [HR.out]; exact own', b8⟩
          case measure => simp [RowKit.intOf]; omega
        · go_wp2_with (at_builtin; refine wpList_append_at rfl (.tmp 32) (.tmp 34) rfl w.heap.size u7 (overL A true (L.take k)) rfl o6 (w3.heap.size + 1) 1 (qk, qx, qn, qt) rfl ⟨by simp, by simp, by simp, by simp⟩ hlen.out b7.size ?_; intro v' w6 own' gr')
          have b8 := b7.grown gr' b7.size (fun j hj => hge j hj)
          go_roundw
          case rel => exact ⟨k + 1, by omega, by go_num, by rw [HR.out]; exact own', b8⟩
          case measure => simp [RowKit.intOf]; omega
      · have HR : Hid (overL A first (L.take (k + 1)) = overL A first (L.take k)) := by
          show _ = _
          unfold overL
          rw [HS]; simp only [HT.out, hkeep]; simp
        have hc : first = true ∧ T = true := by
          cases first <;> cases T <;> simp at hkeep ⊢
        obtain ⟨rfl, rfl⟩ := hc
        clear HS hkeep
        have O5 : Hid (OwnA _ w.heap.size u7 (overL A true (L.take k))) := o5
        clear o5
        go_wp2_with fail
        go_roundw
        case rel => exact ⟨k + 1, by omega, by go_num, by rw [HR.out]; exact O5.out, b5⟩
        case measure => simp [RowKit.intOf]; omega
    · have hltI : ¬ (k : Int) < n := by omega
      have HO : Hid (OwnA wr w.heap.size u7 (overL A first L)) := by
        show OwnA _ _ _ _
        rw [List.take_of_length_le (by rw [HN.out]; omega)] at own
        exact own
      clear own
      go_wp2
      go_ret
      exact ⟨_, rfl, HO.out, bw⟩
end Go.Proofs.YtigmhbgdnmkooaaDoor
