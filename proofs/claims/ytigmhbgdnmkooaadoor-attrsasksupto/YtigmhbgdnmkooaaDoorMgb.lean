/- attrs.Of, purely: turned round, stably sorted, the firsts kept: the patch of pairs in any order. slices.rotateCmpFunc at pairs. Insertion sort of a range, purely: it is a stable sort by keys. Merging within a range, purely: runs of a row as lists, the step of a symmetric merge, one pair put to its place. The small cases of a merge, purely: one pair moved up or down to its place; what a binary search may go by. Sorting by blocks and merging them, purely. slices.symMergeCmpFunc at pairs, by their keys: one pair ahead of a sorted run. slices.insertionSortCmpFunc at pairs, by their keys. slices.symMergeCmpFunc at pairs, by their keys: one pair behind a sorted run. A symmetric merge's general step, purely: the four runs after rotating, and the whole from the two halves. slices.symMergeCmpFunc at pairs, by their keys, whole. slices.stableCmpFunc and SortStableFunc at pairs, by their keys. What scalars.Len and scalars.Cut answer (parts of Sca.tpl and Cut.tpl, over a list of sentinels). Operations as plain data; what an insert is refused with. content.checkFields and Marked.Attributes. content.Of: an insert as a piece. What vellumref04.SameAttrs, content.Same and vellumref04.Same answer. Rows of cells as they lie in memory. Rows of operations as they lie in memory. The mark behind a list's end. What vellumspare.Copy makes: operations with spare room; what writing over them leaves. -/
import Derived.Test.YtigmhbgdnmkooaaDoorMs
import Derived.Test.YtigmhbgdnmkooaaDoorMga
import Derived.Test.YtigmhbgdnmkooaaDoorSo
import Derived.Test.YtigmhbgdnmkooaaDoorSx
import Derived.Deep.RegionHeld3
import Derived.Test.YtigmhbgdnmkooaaDoorSk
import Derived.Deep.DeepCutAuto
import Derived.Test.YtigmhbgdnmkooaaDoorVf
import Derived.Test.YtigmhbgdnmkooaaDoorPos
import Derived.Laws.RangeString
import Derived.Laws.RangeAny
import Derived.Deep.RegionWith
import Derived.Test.YtigmhbgdnmkooaaDoorPc
import Derived.Test.YtigmhbgdnmkooaaDoorJp
import Derived.Test.YtigmhbgdnmkooaaDoorAx
import Derived.BigQuiet
import Derived.Test.YtigmhbgdnmkooaaDoorSm
import Derived.Deep.DeepBigQuietO
import Derived.Laws.OwnMore
import Derived.Laws.AppendOwnNone
import Derived.OneCell
import Derived.Maps.AppendAt
import Derived.Test.YtigmhbgdnmkooaaDoorPa

/- attrs.Of, purely: turned round, stably sorted, the firsts kept: the patch of pairs in any order. -/
namespace Go.Proofs.YtigmhbgdnmkooaaDoor
open Go Go.RowKit Go.Lib
set_option linter.unusedVariables false

theorem put_mem {q y : A2} : ∀ {D : Bool} {L : List A2}, y ∈ putF q D L → y = q ∨ (y ∈ L ∧ y.1 ≠ q.1)
  | D, [], h => by
    rw [putF] at h
    cases D
    · exact Or.inl (by simpa using h)
    · simp at h
  | D, x :: r, h => by
    rw [putF] at h
    simp only [List.mem_append] at h
    rcases h with h | h | h
    · split at h
      · exact Or.inl (by simpa using h)
      · simp at h
    · split at h
      · simp at h
      · rename_i hne
        obtain rfl : y = x := by simpa using h
        exact Or.inr ⟨List.mem_cons_self .., hne⟩
    · rcases put_mem h with h | ⟨h, h'⟩
      · exact Or.inl h
      · exact Or.inr ⟨List.mem_cons_of_mem _ h, h'⟩
theorem put_true_mem {q y : A2} : ∀ {L : List A2}, y ∈ putF q true L → y ∈ L ∧ y.1 ≠ q.1
  | [], h => by rw [putF] at h; simp at h
  | x :: r, h => by
    rw [putF] at h
    simp only [List.mem_append] at h
    rcases h with h | h | h
    · simp at h
    · split at h
      · simp at h
      · rename_i hne
        obtain rfl : y = x := by simpa using h
        exact ⟨List.mem_cons_self .., hne⟩
    · obtain ⟨h1, h2⟩ := put_true_mem (by simpa using h)
      exact ⟨List.mem_cons_of_mem _ h1, h2⟩
theorem put_true {q : A2} : ∀ {L : List A2}, Up L → Up (putF q true L) ∧ ∀ k, look k (putF q true L) = if q.1 = k then none else look k L
  | [], _ => by
    rw [putF, if_pos rfl]
    exact ⟨List.Pairwise.nil, fun k => by show none = _; split <;> rfl⟩
  | x :: r, h => by
    obtain ⟨h1, h2⟩ := List.pairwise_cons.1 h
    obtain ⟨u, l⟩ := put_true (q := q) h2
    have e : putF q true (x :: r) = (if x.1 = q.1 then [] else [x]) ++ putF q true r := by rw [putF]; rfl
    rw [e]
    by_cases hx : x.1 = q.1
    · rw [if_pos hx, List.nil_append]
      refine ⟨u, fun k => ?_⟩
      rw [l, look]
      by_cases hk : q.1 = k
      · rw [if_pos hk, if_pos hk]
      · rw [if_neg hk, if_neg hk, if_neg (by rw [hx]; exact hk)]
    · rw [if_neg hx]
      refine ⟨List.pairwise_cons.2 ⟨fun y hy => h1 y (put_true_mem hy).1, u⟩, fun k => ?_⟩
      show look k (x :: putF q true r) = _
      rw [look, look, l]
      by_cases hk : q.1 = k
      · rw [if_pos hk, if_pos hk, if_neg (fun h => hx (h.trans hk.symm))]
      · rw [if_neg hk, if_neg hk]
theorem put_false {q : A2} : ∀ {L : List A2}, Up L → Up (putF q false L) ∧ ∀ k, look k (putF q false L) = if q.1 = k then some q.2 else look k L
  | [], _ => by
    rw [putF]
    exact ⟨List.pairwise_singleton _ _, fun k => rfl⟩
  | x :: r, h => by
    obtain ⟨h1, h2⟩ := List.pairwise_cons.1 h
    by_cases hlt : kc x.1 q.1 < 0
    · obtain ⟨u, l⟩ := put_false (q := q) h2
      have hx : x.1 ≠ q.1 := kc_ne hlt
      have e : putF q false (x :: r) = x :: putF q false r := by
        rw [putF, if_neg (by simp [hlt]), if_neg hx, decide_eq_true hlt]; rfl
      rw [e]
      refine ⟨List.pairwise_cons.2 ⟨fun y hy => ?_, u⟩, fun k => ?_⟩
      · rcases put_mem hy with rfl | ⟨hy, _⟩
        · exact hlt
        · exact h1 y hy
      · rw [look, look, l]
        by_cases hk : x.1 = k
        · rw [if_pos hk, if_neg (fun h => hx (hk.trans h.symm)), if_pos hk]
        · rw [if_neg hk, if_neg hk]
    · obtain ⟨u, l⟩ := put_true (q := q) h
      have e : putF q false (x :: r) = q :: putF q true (x :: r) := by
        rw [putF, putF, if_pos (by simp [hlt]), decide_eq_false hlt]; rfl
      rw [e]
      have hge : ∀ y ∈ x :: r, y.1 ≠ q.1 → kc q.1 y.1 < 0 := fun y hy hne => by
        have hxq : ∀ z : A2, ¬ kc z.1 q.1 < 0 → z.1 ≠ q.1 → kc q.1 z.1 < 0 := fun z hz hn => kc_gt hz fun h0 => hn (kc_zero.1 h0)
        rcases List.mem_cons.1 hy with rfl | hy
        · exact hxq _ hlt hne
        · refine hxq y (fun hh => hlt ?_) hne
          exact kc_lt (h1 y hy) hh
      refine ⟨List.pairwise_cons.2 ⟨fun y hy => ?_, u⟩, fun k => ?_⟩
      · obtain ⟨h3, h4⟩ := put_true_mem hy
        exact hge y h3 h4
      · rw [look, l]
        by_cases hk : q.1 = k
        · rw [if_pos hk, if_pos hk]
        · rw [if_neg hk, if_neg hk, if_neg hk]
theorem fold_look : ∀ (L O : List A2), Up O → Up (L.foldl (fun o q => putF q false o) O) ∧ ∀ k, look k (L.foldl (fun o q => putF q false o) O) = (look k L.reverse).or (look k O)
  | [], O, h => ⟨h, fun k => by show look k O = (look k []).or _; rfl⟩
  | q :: r, O, h => by
    obtain ⟨u, l⟩ := put_false (q := q) h
    obtain ⟨u2, l2⟩ := fold_look r (putF q false O) u
    refine ⟨u2, fun k => ?_⟩
    show look k (r.foldl (fun o q => putF q false o) (putF q false O)) = _
    rw [l2, l, List.reverse_cons, look_append, Option.or_assoc]
    congr 1
    show _ = (look k [q]).or _
    rw [look]
    split <;> rfl
/-- What attrs.Of makes of good pairs. -/
theorem of_firsts {L M : List A2} (h : SL L.reverse M) (hs : Srt M) : firsts M = ofL L := by
  obtain ⟨u, l⟩ := fold_look L [] List.Pairwise.nil
  exact firsts_one h hs u fun k => by
    show look k (L.foldl _ []) = _
    rw [l]
    show (look k L.reverse).or none = _
    rw [Option.or_none]
end Go.Proofs.YtigmhbgdnmkooaaDoor

/- slices.rotateCmpFunc at pairs. -/
namespace Go.Proofs.YtigmhbgdnmkooaaDoor
open Go Go.RowKit Go.Lib Go.Sort
set_option linter.unusedVariables false

theorem SWK.from {enc : A2 → List Value} {w0 w W : World} {blk : Nat} {d : Array A2} (h : SWK enc 4 w0 blk 0 d W) : Hid (SWK enc 4 w0 blk 0 d W) := h

set_option maxHeartbeats 2000000 in
set_option maxRecDepth 1000000 in
theorem rotate_any (blk cap a m b : Nat) (d0 d : Array A2) (w0 w : World) (f : Value) (R : RowK encA 4 w0 blk 0 d0) (hs : d0.size = d.size) (S : SWK encA 4 w0 blk 0 d w) (ham : a < m) (hmb : m < b) (hb : b ≤ d.size) (hsz : d.size < 4611686018427387904) :
    Calls Tryd.prog 82 #[.slice (some ⟨blk, 0, none⟩) d.size cap, .int .i64 a, .int .i64 m, .int .i64 b, f] w fun e w' => e = .returned (.tuple #[]) ∧ SWK encA 4 w0 blk 0 (rotL m (m - a) (b - m) d) w' := by
  have S0 : Hid (SWK encA 4 w0 blk 0 d w) := S
  obtain ⟨Z, hZ⟩ : ∃ Z, d.size = Z := ⟨_, rfl⟩
  have C : Hid (∀ (a' b' m' : Nat) (dk : Array A2) (W : World), dk.size = Z → SWK encA 4 w0 blk 0 dk W → a' + m' ≤ b' → b' + m' ≤ Z → Calls Tryd.prog 86 #[.slice (some ⟨blk, 0, none⟩) Z cap, .int .i64 a', .int .i64 b', .int .i64 m', f] W fun e w' => e = .returned (.tuple #[]) ∧ SWK encA 4 w0 blk 0 (swr dk a' b' m') w') := fun a' b' m' dk W hk h1 h2 h3 => by
    have := swapRange_any blk cap a' b' m' d0 dk w0 W f R (by rw [hs, hZ, hk]) h1 h2 (by rw [hk]; exact h3) (by rw [hk, ← hZ]; exact hsz)
    rwa [hk] at this
  obtain ⟨RT, hRT⟩ : ∃ RT, rotL m (m - a) (b - m) d = RT := ⟨_, rfl⟩
  rw [hRT]
  have HRT : Hid (rotL m (m - a) (b - m) d = RT) := hRT
  have HZ : Hid (d.size = Z) := hZ
  rw [hZ] at hb hsz ⊢
  clear S R hs hRT hZ
  go_enter Tryd.func82, Tryd.ntmps82
  go_wp2
  go_loopw [10, 11] (fun s t wr => ∃ (i j : Nat) (dk : Array A2), 0 < i ∧ 0 < j ∧ i ≤ m ∧ m + j ≤ Z ∧ s = .int .i64 i ∧ t = .int .i64 j ∧ Hid (SWK encA 4 w0 blk 0 dk wr ∧ dk.size = Z ∧ rotL m i j dk = RT)) (fun s t _ => (RowKit.intOf s).toNat + (RowKit.intOf t).toNat)
  case atStart =>
    refine ⟨m - a, b - m, d, by omega, by omega, by omega, by omega, ?_, ?_, S0.out, HZ.out, HRT.out⟩
    · rw [Int.ofNat_sub (by omega)]
    · rw [Int.ofNat_sub (by omega)]
  case round =>
    clear S0 HZ HRT
    obtain ⟨i, j, dk, hi, hj, him, hmj, rfl, rfl, H⟩ := hrel
    by_cases heq : i = j
    · subst heq
      have hx : ((i : Int) != (i : Int)) = false := by simp
      have e1 : (m : Int) - (i : Int) = ((m - i : Nat) : Int) := by omega
      have c1 := C.out (m - i) m i dk wr H.out.2.1 H.out.1 (by omega) hmj
      have HF : Hid (swr dk (m - i) m i = RT) := by
        have := H.out.2.2
        rw [rotL, if_neg (by omega), if_pos rfl] at this
        exact this
      rw [← e1, HF.out] at c1
      clear C H e1
      go_wp2_with fail
      refine c1.mono ?_; rintro r w2 ⟨rfl, h2⟩
      go_wp2
      go_end0
      exact ⟨rfl, h2⟩
    · have hx : ((i : Int) != (j : Int)) = true := by simp; omega
      by_cases hlt : j < i
      · have hltI : (j : Int) < (i : Int) := by omega
        have e1 : (m : Int) - (i : Int) = ((m - i : Nat) : Int) := by omega
        have e2 : (i : Int) - (j : Int) = ((i - j : Nat) : Int) := by omega
        have c1 := C.out (m - i) m j dk wr H.out.2.1 H.out.1 (by omega) hmj
        have HF : Hid (rotL m (i - j) j (swr dk (m - i) m j) = RT) := by
          have := H.out.2.2
          rw [rotL, if_neg (by omega), if_neg heq, if_pos hlt] at this
          exact this
        have HS : Hid ((swr dk (m - i) m j).size = Z) := by show _ = _; rw [swr_size]; exact H.out.2.1
        have E2 : Hid _ := e2
        rw [← e1] at c1
        clear C H e1 e2 heq
        go_wp2_with fail
        refine c1.mono ?_; rintro r w2 ⟨rfl, h2⟩
        have H2 : Hid _ := h2
        clear h2 c1
        go_wp2
        go_roundw
        case rel => exact ⟨i - j, j, _, by omega, hj, by omega, hmj, by rw [E2.out], rfl, H2.out, HS.out, HF.out⟩
        case measure => simp [RowKit.intOf]; omega
      · have hltI : ¬ (j : Int) < (i : Int) := by omega
        have hij : i < j := by omega
        have e1 : (m : Int) - (i : Int) = ((m - i : Nat) : Int) := by omega
        have e2 : (j : Int) - (i : Int) = ((j - i : Nat) : Int) := by omega
        have e3 : (m : Int) + (j : Int) - (i : Int) = ((m + j - i : Nat) : Int) := by omega
        have c1 := C.out (m - i) (m + j - i) i dk wr H.out.2.1 H.out.1 (by omega) (by omega)
        have HF : Hid (rotL m i (j - i) (swr dk (m - i) (m + j - i) i) = RT) := by
          have := H.out.2.2
          rw [rotL, if_neg (by omega), if_neg heq, if_neg hlt] at this
          exact this
        have HS : Hid ((swr dk (m - i) (m + j - i) i).size = Z) := by show _ = _; rw [swr_size]; exact H.out.2.1
        have E2 : Hid _ := e2
        rw [← e1, ← e3] at c1
        clear C H e1 e2 e3 heq
        go_wp2_with fail
        refine c1.mono ?_; rintro r w2 ⟨rfl, h2⟩
        have H2 : Hid _ := h2
        clear h2 c1
        go_wp2
        go_roundw
        case rel => exact ⟨i, j - i, _, hi, by omega, him, by omega, rfl, by rw [E2.out], H2.out, HS.out, HF.out⟩
        case measure => simp [RowKit.intOf]; omega
end Go.Proofs.YtigmhbgdnmkooaaDoor

/- Insertion sort of a range, purely: it is a stable sort by keys. -/
namespace Go.Proofs.YtigmhbgdnmkooaaDoor
open Go Go.Sort
set_option linter.unusedVariables false

/-- The j-th goes down to its place, not below a. -/
def insJ (a : Nat) : Nat → Array A2 → Array A2
  | 0, d => d
  | j + 1, d => if a < j + 1 ∧ kc d[j + 1]!.1 d[j]!.1 < 0 then insJ a j (swp d (j + 1) j) else d
def insR (a : Nat) : Nat → Nat → Array A2 → Array A2
  | 0, _, d => d
  | c + 1, i, d => insR a c (i + 1) (insJ a i d)
theorem getB_of {d : Array A2} {i : Nat} {q : A2} (h : d[i]? = some q) : d[i]! = q := by rw [getElem!_def, h]
theorem mid_get (P A : List A2) (q : A2) (T : List A2) : (P ++ (A ++ q :: T)).toArray[P.length + A.length]? = some q := by
  rw [List.getElem?_toArray, List.getElem?_append_right (by omega), List.getElem?_append_right (by omega), Nat.add_sub_cancel_left, Nat.sub_self]; rfl
theorem swp_mid (P A : List A2) (x q : A2) (T : List A2) : swp (P ++ (A ++ x :: q :: T)).toArray (P.length + A.length + 1) (P.length + A.length) = (P ++ (A ++ q :: x :: T)).toArray := by
  have h1 := getB_of (mid_get P A x (q :: T))
  have h2 : (P ++ (A ++ x :: q :: T)).toArray[P.length + A.length + 1]! = q := by
    have := mid_get P (A ++ [x]) q T
    rw [List.append_assoc, List.singleton_append] at this
    rw [List.length_append, List.length_singleton, ← Nat.add_assoc] at this
    exact getB_of this
  unfold swp
  rw [h1, h2]
  apply Array.ext'
  simp only [Array.toList_setIfInBounds]
  rw [List.set_append_right _ _ (by omega), List.set_append_right _ _ (by omega), show P.length + A.length + 1 - P.length = A.length + 1 by omega, show P.length + A.length - P.length = A.length by omega]
  rw [List.set_append_right _ _ (by omega), List.set_append_right _ _ (by omega), show A.length + 1 - A.length = 1 by omega, Nat.sub_self]
  rfl
/-- The next one goes to its place among those that don't fall. -/
theorem insJ_ok (P : List A2) (q : A2) : ∀ (n : Nat) (A T : List A2), A.length = n → Srt A → ∃ M, (insJ P.length (P.length + A.length) (P ++ (A ++ q :: T)).toArray = (P ++ (M ++ T)).toArray) ∧ SL (A ++ [q]) M ∧ Srt M ∧ ∃ A1 A2', A = A1 ++ A2' ∧ M = A1 ++ q :: A2' ∧ (∀ x ∈ A2', kc q.1 x.1 < 0) := by
  intro n
  induction n with
  | zero =>
    intro A T hn hs
    obtain rfl : A = [] := List.eq_nil_of_length_eq_zero hn
    refine ⟨[q], ?_, SL.refl _, List.pairwise_singleton _ _, [], [], rfl, rfl, fun x hx => (by cases hx)⟩
    have : ∀ (a : Nat) (d : Array A2), insJ a (a + 0) d = d := fun a d => by
      cases a with
      | zero => rfl
      | succ a => show insJ (a + 1) (a + 1) d = d; rw [insJ, if_neg (by omega)]
    exact this _ _
  | succ n ih =>
    intro A T hn hs
    obtain ⟨A', x, rfl⟩ : ∃ A' x, A = A' ++ [x] := ⟨A.dropLast, A.getLast (by intro e; rw [e] at hn; simp at hn), (List.dropLast_concat_getLast _).symm⟩
    have hA' : A'.length = n := by simpa using hn
    obtain ⟨s1, _, s3⟩ := srt_append.1 hs
    have e1 : P ++ (A' ++ [x] ++ q :: T) = P ++ (A' ++ x :: q :: T) := by simp
    have g1 := getB_of (mid_get P A' x (q :: T))
    have g2 : (P ++ (A' ++ x :: q :: T)).toArray[P.length + A'.length + 1]! = q := by
      have := mid_get P (A' ++ [x]) q T
      rw [List.append_assoc, List.singleton_append, List.length_append, List.length_singleton, ← Nat.add_assoc] at this
      exact getB_of this
    rw [e1, List.length_append, List.length_singleton, ← Nat.add_assoc, insJ, g1, g2]
    by_cases hlt : kc q.1 x.1 < 0
    · rw [if_pos ⟨by omega, hlt⟩, swp_mid]
      obtain ⟨M, h1, h2, h3, A1, A2', h4, h5, h6⟩ := ih A' (x :: T) hA' s1
      have hx : ∀ y ∈ A2' ++ [x], kc q.1 y.1 < 0 := fun y hy => by
        rcases List.mem_append.1 hy with hy | hy
        · exact h6 y hy
        · obtain rfl := List.mem_singleton.1 hy; exact hlt
      refine ⟨M ++ [x], by rw [h1]; simp, ?_, ?_, A1, A2' ++ [x], by rw [h4]; simp, by rw [h5]; simp, hx⟩
      all_goals
        subst h4 h5
        have hh := put_last (q := q) (A1 := A1) (A2' := A2' ++ [x]) (by simpa [List.append_assoc] using hs) (fun y hy => by
          have h7 := (srt_append.1 h3).2.2 y hy q (List.mem_cons_self ..)
          exact h7) hx
        first | (have := hh.1; simpa [List.append_assoc] using this) | (have := hh.2; simpa [List.append_assoc] using this)
    · rw [if_neg (fun h => hlt h.2)]
      refine ⟨A' ++ [x] ++ [q], by simp, SL.refl _, srt_append.2 ⟨hs, List.pairwise_singleton _ _, fun y hy z hz => ?_⟩, A' ++ [x], [], by simp, by simp, fun y hy => (by cases hy)⟩
      obtain rfl := List.mem_singleton.1 hz
      rcases List.mem_append.1 hy with hy | hy
      · exact kc_le_trans (s3 y hy x (List.mem_cons_self ..)) hlt
      · obtain rfl := List.mem_singleton.1 hy; exact hlt
/-- Insertion sort of a range. -/
theorem insR_ok (P : List A2) : ∀ (R A T : List A2), Srt A → ∃ M, insR P.length R.length (P.length + A.length) (P ++ (A ++ (R ++ T))).toArray = (P ++ (M ++ T)).toArray ∧ SL (A ++ R) M ∧ Srt M := by
  intro R
  induction R with
  | nil => intro A T hs; exact ⟨A, rfl, by rw [List.append_nil]; exact SL.refl _, hs⟩
  | cons q R ih =>
    intro A T hs
    obtain ⟨M, h1, h2, h3, _⟩ := insJ_ok P q A.length A (R ++ T) rfl hs
    obtain ⟨N, g1, g2, g3⟩ := ih M T h3
    have hl : M.length = A.length + 1 := by have := h2.perm.length_eq; simpa using this
    refine ⟨N, ?_, ?_, g3⟩
    · rw [List.length_cons, insR, List.cons_append, h1, ← g1, hl, ← Nat.add_assoc]
    · have := (h2.append (SL.refl R)).trans g2
      simpa [List.append_assoc] using this
end Go.Proofs.YtigmhbgdnmkooaaDoor

/- Merging within a range, purely: runs of a row as lists, the step of a symmetric merge, one pair put to its place. -/
namespace Go.Proofs.YtigmhbgdnmkooaaDoor
open Go Go.RowKit Go.Lib Go.Sort
set_option linter.unusedVariables false

/-- The run from a up to b. -/
def sg (d : Array A2) (a b : Nat) : List A2 := (List.range' a (b - a)).map fun k => d[k]!
theorem sg_append (d : Array A2) {a m b : Nat} (h1 : a ≤ m) (h2 : m ≤ b) : sg d a b = sg d a m ++ sg d m b := by
  unfold sg
  rw [← List.map_append]
  congr 1
  have := List.range'_append_1 (s := a) (m := m - a) (n := b - m)
  rw [show a + (m - a) = m by omega, show m - a + (b - m) = b - a by omega] at this
  exact this.symm
theorem mem_sg {d : Array A2} {a b : Nat} {x : A2} : x ∈ sg d a b ↔ ∃ k, a ≤ k ∧ k < b ∧ x = d[k]! := by
  unfold sg
  rw [List.mem_map]
  constructor
  · rintro ⟨k, hk, rfl⟩
    have := List.mem_range'_1.1 hk
    exact ⟨k, by omega, by omega, rfl⟩
  · rintro ⟨k, h1, h2, rfl⟩
    exact ⟨k, List.mem_range'_1.2 (by omega), rfl⟩
theorem sg_congr {d d' : Array A2} {a b a' : Nat} (h : ∀ k, k < b - a → d'[a' + k]! = d[a + k]!) : sg d' a' (a' + (b - a)) = sg d a b := by
  unfold sg
  rw [Nat.add_sub_cancel_left, List.range'_eq_map_range, List.range'_eq_map_range, List.map_map, List.map_map]
  apply List.map_congr_left
  intro k hk
  exact h k (List.mem_range.1 hk)
theorem sg_same {d d' : Array A2} {a b : Nat} (h : ∀ k, a ≤ k → k < b → d'[k]! = d[k]!) : sg d' a b = sg d a b := by
  unfold sg
  apply List.map_congr_left
  intro k hk
  have := List.mem_range'_1.1 hk
  exact h k (by omega) (by omega)
theorem sg_nil (d : Array A2) {a b : Nat} (h : b ≤ a) : sg d a b = [] := by unfold sg; rw [show b - a = 0 by omega]; rfl
theorem sg_one (d : Array A2) (a : Nat) : sg d a (a + 1) = [d[a]!] := by unfold sg; rw [Nat.add_sub_cancel_left]; rfl
theorem srt_sg {d : Array A2} {a b : Nat} : Srt (sg d a b) ↔ ∀ i j, a ≤ i → i < j → j < b → ¬ kc d[j]!.1 d[i]!.1 < 0 := by
  constructor
  · intro h i j h1 h2 h3
    rw [sg_append d (m := j) (by omega) (by omega)] at h
    exact (srt_append.1 h).2.2 _ (mem_sg.2 ⟨i, h1, h2, rfl⟩) _ (mem_sg.2 ⟨j, Nat.le_refl _, h3, rfl⟩)
  · intro h
    unfold sg Srt
    rw [List.pairwise_map]
    refine List.Pairwise.imp_of_mem (fun {x y} hx hy hxy => ?_) (List.pairwise_lt_range' (s := a) (n := b - a))
    have h1 := List.mem_range'_1.1 hx
    have h2 := List.mem_range'_1.1 hy
    exact h x y (by omega) hxy (by omega)
/-- The range from a up to b is stably sorted, the rest stands. -/
structure Mg (a b : Nat) (d d' : Array A2) : Prop where
  size : d'.size = d.size
  rest : ∀ k, k < a ∨ b ≤ k → d'[k]! = d[k]!
  sl : SL (sg d a b) (sg d' a b)
  srt : Srt (sg d' a b)
theorem Mg.refl {a b : Nat} {d : Array A2} (h : Srt (sg d a b)) : Mg a b d d := ⟨rfl, fun _ _ => rfl, SL.refl _, h⟩
/-- What rotating about m makes of the runs. -/
theorem rot_sg {d : Array A2} {s m e : Nat} (h1 : s ≤ m) (h2 : m ≤ e) (h3 : e ≤ d.size) : (rotL m (m - s) (e - m) d).size = d.size ∧ (∀ k, k < s ∨ e ≤ k → (rotL m (m - s) (e - m) d)[k]! = d[k]!) ∧
    sg (rotL m (m - s) (e - m) d) s (s + (e - m)) = sg d m e ∧ sg (rotL m (m - s) (e - m) d) (s + (e - m)) e = sg d s m := by
  have hat := rotL_at m (m - s) (e - m) d (by omega) (by omega)
  have g : ∀ k, (rotL m (m - s) (e - m) d)[k]! = if s ≤ k ∧ k < s + (e - m) then d[k + (m - s)]! else if s + (e - m) ≤ k ∧ k < e then d[k - (e - m)]! else d[k]! := fun k => by
    rw [getElem!_def, hat k, show m - (m - s) = s by omega, show m + (e - m) = e by omega]
    repeat' split
    all_goals simp_all [getElem!_def]
  refine ⟨rotL_size _ _ _ _, fun k hk => ?_, ?_, ?_⟩
  · rw [g k, if_neg (by omega), if_neg (by omega)]
  · exact sg_congr fun k hk => by rw [g, if_pos (by omega), show s + k + (m - s) = m + k by omega]
  · have := sg_congr (d := d) (d' := rotL m (m - s) (e - m) d) (a := s) (b := m) (a' := s + (e - m)) fun k hk => by
      rw [g, if_neg (by omega), if_pos (by omega), show s + (e - m) + k - (e - m) = s + k by omega]
    rwa [show s + (e - m) + (m - s) = e by omega] at this
/-- The step of a symmetric merge: rotated about m, then each half merged. -/
theorem sym_step {a s m e b c : Nat} {d r d1 d2 : Array A2} (h1 : a ≤ s) (h2 : s ≤ m) (h3 : m ≤ e) (h4 : e ≤ b) (hc : c = s + (e - m)) (sA : Srt (sg d a m)) (sB : Srt (sg d m b))
    (o1 : ∀ i j, a ≤ i → i < s → e ≤ j → j < b → ¬ kc d[j]!.1 d[i]!.1 < 0) (o2 : ∀ i j, s ≤ i → i < m → m ≤ j → j < e → kc d[j]!.1 d[i]!.1 < 0)
    (R : r.size = d.size ∧ (∀ k, k < s ∨ e ≤ k → r[k]! = d[k]!) ∧ sg r s c = sg d m e ∧ sg r c e = sg d s m) (M1 : Mg a c r d1) (M2 : Mg c b d1 d2) : Mg a b d d2 := by
  obtain ⟨r0, r1, r2, r3⟩ := R
  have sA' := sA; have sB' := sB
  rw [sg_append d h1 h2] at sA'
  rw [sg_append d h3 h4] at sB'
  have t1 : sg r a c = sg d a s ++ sg d m e := by rw [sg_append r (m := s) h1 (by omega), r2, sg_same fun k _ hk => r1 k (Or.inl hk)]
  have t2 : sg d1 c b = sg d s m ++ sg d e b := by
    rw [sg_same (d := r) fun k hk _ => M1.rest k (Or.inr hk), sg_append r (m := e) (by omega) h4, r3, sg_same (d := d) (d' := r) fun k hk _ => r1 k (Or.inr hk)]
  have t3 : sg d2 a c = sg d1 a c := sg_same fun k _ hk => M2.rest k (Or.inl hk)
  have g := merge_halves sA' sB' (fun x hx y hy => by
    obtain ⟨i, i1, i2, rfl⟩ := mem_sg.1 hx
    obtain ⟨j, j1, j2, rfl⟩ := mem_sg.1 hy
    exact o1 i j i1 i2 j1 j2) (fun x hx y hy => by
    obtain ⟨i, i1, i2, rfl⟩ := mem_sg.1 hx
    obtain ⟨j, j1, j2, rfl⟩ := mem_sg.1 hy
    exact o2 i j i1 i2 j1 j2) (by rw [← t1]; exact M1.sl) (by rw [← t2]; exact M2.sl) M1.srt M2.srt
  refine ⟨M2.size.trans (M1.size.trans r0), fun k hk => ?_, ?_, ?_⟩
  · rw [M2.rest k (by omega), M1.rest k (by omega), r1 k (by omega)]
  · rw [sg_append d (m := m) (by omega) (by omega), sg_append d h1 h2, sg_append d h3 h4, sg_append d2 (m := c) (by omega) (by omega), t3]
    exact g.1
  · rw [sg_append d2 (m := c) (by omega) (by omega), t3]
    exact g.2
end Go.Proofs.YtigmhbgdnmkooaaDoor

/- The small cases of a merge, purely: one pair moved up or down to its place; what a binary search may go by. -/
namespace Go.Proofs.YtigmhbgdnmkooaaDoor
open Go Go.RowKit Go.Lib Go.Sort
set_option linter.unusedVariables false

theorem kc_le_lt {x y z : ByteArray} (h1 : ¬ kc y x < 0) (h2 : kc y z < 0) : kc x z < 0 := by
  rcases Classical.em (kc x z < 0) with h | h
  · exact h
  · exact absurd h2 (kc_le_trans h h1)
theorem kc_lt_le' {x y z : ByteArray} (h1 : kc x y < 0) (h2 : ¬ kc z y < 0) : kc x z < 0 := by
  rcases Classical.em (kc x z < 0) with h | h
  · exact h
  · exact absurd h1 (kc_le_trans h2 h)
/-- c exchanges of neighbours, from a upwards. -/
def mvU (d : Array A2) (a : Nat) : Nat → Array A2
  | 0 => d
  | c + 1 => swp (mvU d a c) (a + c) (a + c + 1)
/-- c exchanges of neighbours, from m downwards. -/
def mvD (d : Array A2) (m : Nat) : Nat → Array A2
  | 0 => d
  | c + 1 => swp (mvD d m c) (m - c) (m - c - 1)
theorem swp_sz (d : Array A2) (i j : Nat) : (swp d i j).size = d.size := by simp [swp]
theorem mvU_size (d : Array A2) (a : Nat) : ∀ c, (mvU d a c).size = d.size
  | 0 => rfl
  | c + 1 => by rw [mvU, swp_sz, mvU_size d a c]
theorem mvD_size (d : Array A2) (m : Nat) : ∀ c, (mvD d m c).size = d.size
  | 0 => rfl
  | c + 1 => by rw [mvD, swp_sz, mvD_size d m c]
theorem mvU_at (d : Array A2) (a : Nat) : ∀ (c k : Nat), a + c < d.size → (mvU d a c)[k]? = if a ≤ k ∧ k < a + c then d[k + 1]? else if k = a + c then d[a]? else d[k]?
  | 0, k, h => by
    rw [mvU, if_neg (by omega)]
    split
    · rename_i h; rw [h]; rfl
    · rfl
  | c + 1, k, h => by
    have ih := fun k => mvU_at d a c k (by omega)
    have hz := mvU_size d a c
    rw [mvU, swp_at _ _ _ _ (by omega) (by omega), ih, ih, ih]
    repeat' split
    all_goals first | omega | rfl | (congr 1; omega)
theorem mvD_at (d : Array A2) (m : Nat) : ∀ (c k : Nat), c ≤ m → m < d.size → (mvD d m c)[k]? = if k = m - c then d[m]? else if m - c < k ∧ k ≤ m then d[k - 1]? else d[k]?
  | 0, k, h, h' => by
    rw [mvD, Nat.sub_zero]
    split
    · rename_i h; rw [h]
    · rw [if_neg (by omega)]
  | c + 1, k, h, h' => by
    have ih := fun k => mvD_at d m c k (by omega) h'
    have hz := mvD_size d m c
    rw [mvD, swp_at _ _ _ _ (by omega) (by omega), ih, ih, ih]
    repeat' split
    all_goals first | omega | rfl | (congr 1; omega)
/-- One pair ahead of a sorted run: up to the first that isn't less. -/
theorem one_up {a i b : Nat} {d : Array A2} (h1 : a + 1 ≤ i) (h2 : i ≤ b) (h3 : b ≤ d.size) (sB : Srt (sg d (a + 1) b)) (o1 : ∀ k, a + 1 ≤ k → k < i → kc d[k]!.1 d[a]!.1 < 0) (o2 : ∀ k, i ≤ k → k < b → ¬ kc d[k]!.1 d[a]!.1 < 0) :
    Mg a b d (mvU d a (i - 1 - a)) := by
  have g : ∀ k, (mvU d a (i - 1 - a))[k]! = if a ≤ k ∧ k < i - 1 then d[k + 1]! else if k = i - 1 then d[a]! else d[k]! := fun k => by
    rw [getElem!_def, mvU_at d a _ k (by omega), show a + (i - 1 - a) = i - 1 by omega]
    repeat' split
    all_goals simp_all [getElem!_def]
  have e1 : sg (mvU d a (i - 1 - a)) a (i - 1) = sg d (a + 1) i := by
    have := sg_congr (d := d) (d' := mvU d a (i - 1 - a)) (a := a + 1) (b := i) (a' := a) fun k hk => by rw [g, if_pos (by omega), show a + k + 1 = a + 1 + k by omega]
    rwa [show a + (i - (a + 1)) = i - 1 by omega] at this
  have e2 : sg (mvU d a (i - 1 - a)) (i - 1) i = [d[a]!] := by
    have := sg_one (mvU d a (i - 1 - a)) (i - 1)
    rwa [show i - 1 + 1 = i by omega, g, if_neg (by omega), if_pos rfl] at this
  have e3 : sg (mvU d a (i - 1 - a)) i b = sg d i b := sg_same fun k h _ => by rw [g, if_neg (by omega), if_neg (by omega)]
  have e4 : sg (mvU d a (i - 1 - a)) a b = sg d (a + 1) i ++ d[a]! :: sg d i b := by
    rw [sg_append _ (a := a) (m := i - 1) (b := b) (by omega) (by omega), sg_append _ (a := i - 1) (m := i) (b := b) (by omega) (by omega), e1, e2, e3]; rfl
  have e5 : sg d a b = d[a]! :: (sg d (a + 1) i ++ sg d i b) := by
    rw [sg_append d (a := a) (m := a + 1) (b := b) (by omega) (by omega), sg_one, sg_append d (a := a + 1) (m := i) (b := b) h1 h2]; rfl
  rw [sg_append d h1 h2] at sB
  have p := put_first (q := d[a]!) sB (fun y hy => by obtain ⟨k, k1, k2, rfl⟩ := mem_sg.1 hy; exact o1 k k1 k2) (fun y hy => by obtain ⟨k, k1, k2, rfl⟩ := mem_sg.1 hy; exact o2 k k1 k2)
  exact ⟨mvU_size _ _ _, fun k hk => by rw [g, if_neg (by omega), if_neg (by omega)], by rw [e4, e5]; exact p.1, by rw [e4]; exact p.2⟩
/-- One pair behind a sorted run: down to behind the last that isn't greater. -/
theorem one_down {a i m : Nat} {d : Array A2} (h1 : a ≤ i) (h2 : i ≤ m) (h3 : m < d.size) (sA : Srt (sg d a m)) (o1 : ∀ k, a ≤ k → k < i → ¬ kc d[m]!.1 d[k]!.1 < 0) (o2 : ∀ k, i ≤ k → k < m → kc d[m]!.1 d[k]!.1 < 0) :
    Mg a (m + 1) d (mvD d m (m - i)) := by
  have g : ∀ k, (mvD d m (m - i))[k]! = if k = i then d[m]! else if i < k ∧ k ≤ m then d[k - 1]! else d[k]! := fun k => by
    rw [getElem!_def, mvD_at d m _ k (by omega) h3, show m - (m - i) = i by omega]
    repeat' split
    all_goals simp_all [getElem!_def]
  have e1 : sg (mvD d m (m - i)) a i = sg d a i := sg_same fun k _ h => by rw [g, if_neg (by omega), if_neg (by omega)]
  have e2 : sg (mvD d m (m - i)) i (i + 1) = [d[m]!] := by rw [sg_one, g, if_pos rfl]
  have e3 : sg (mvD d m (m - i)) (i + 1) (m + 1) = sg d i m := by
    have := sg_congr (d := d) (d' := mvD d m (m - i)) (a := i) (b := m) (a' := i + 1) fun k hk => by rw [g, if_neg (by omega), if_pos (by omega), show i + 1 + k - 1 = i + k by omega]
    rwa [show i + 1 + (m - i) = m + 1 by omega] at this
  have e4 : sg (mvD d m (m - i)) a (m + 1) = sg d a i ++ d[m]! :: sg d i m := by
    rw [sg_append _ (a := a) (m := i) (b := m + 1) (by omega) (by omega), sg_append _ (a := i) (m := i + 1) (b := m + 1) (by omega) (by omega), e1, e2, e3]; rfl
  have e5 : sg d a (m + 1) = (sg d a i ++ sg d i m) ++ [d[m]!] := by
    rw [sg_append d (a := a) (m := m) (b := m + 1) (by omega) (by omega), sg_one, sg_append d h1 h2]
  rw [sg_append d h1 h2] at sA
  have p := put_last (q := d[m]!) sA (fun y hy => by obtain ⟨k, k1, k2, rfl⟩ := mem_sg.1 hy; exact o1 k k1 k2) (fun y hy => by obtain ⟨k, k1, k2, rfl⟩ := mem_sg.1 hy; exact o2 k k1 k2)
  exact ⟨mvD_size _ _ _, fun k hk => by rw [g, if_neg (by omega), if_neg (by omega)], by rw [e4, e5]; exact p.1, by rw [e4]; exact p.2⟩
/-- The three searches: what holds at h holds on its side. -/
theorem up_mono {d : Array A2} {m b a h : Nat} (sB : Srt (sg d m b)) (hh : h < b) (hm : m ≤ h) : (kc d[h]!.1 d[a]!.1 < 0 → ∀ k, m ≤ k → k ≤ h → kc d[k]!.1 d[a]!.1 < 0) ∧ (¬ kc d[h]!.1 d[a]!.1 < 0 → ∀ k, h ≤ k → k < b → ¬ kc d[k]!.1 d[a]!.1 < 0) := by
  have s := srt_sg.1 sB
  refine ⟨fun p k k1 k2 => ?_, fun p k k1 k2 => ?_⟩
  · rcases Nat.eq_or_lt_of_le k2 with rfl | h'
    · exact p
    · exact kc_le_lt (s k h k1 h' hh) p
  · rcases Nat.eq_or_lt_of_le k1 with rfl | h'
    · exact p
    · exact kc_le_trans p (s h k hm h' k2)
theorem down_mono {d : Array A2} {a m h q : Nat} (sA : Srt (sg d a m)) (hh : h < m) (ha : a ≤ h) : (¬ kc d[q]!.1 d[h]!.1 < 0 → ∀ k, a ≤ k → k ≤ h → ¬ kc d[q]!.1 d[k]!.1 < 0) ∧ (kc d[q]!.1 d[h]!.1 < 0 → ∀ k, h ≤ k → k < m → kc d[q]!.1 d[k]!.1 < 0) := by
  have s := srt_sg.1 sA
  refine ⟨fun p k k1 k2 => ?_, fun p k k1 k2 => ?_⟩
  · rcases Nat.eq_or_lt_of_le k2 with rfl | h'
    · exact p
    · exact kc_le_trans (s k h k1 h' hh) p
  · rcases Nat.eq_or_lt_of_le k1 with rfl | h'
    · exact p
    · exact kc_lt_le' p (s h k ha h' k2)
/-- The search of a symmetric merge about p + 1 = n: from what holds next to the place found, what the step asks. -/
theorem sym_found {d : Array A2} {a m b n s lo r : Nat} (sA : Srt (sg d a m)) (sB : Srt (sg d m b)) (hlo : a ≤ lo) (hls : lo ≤ s) (hsr : s ≤ r) (hrm : r ≤ m) (hmn : m + s ≤ n) (hnb : n ≤ b + lo) (elo : lo = a ∨ n = b + lo) (er : r = m ∨ n = m + r)
    (f1 : lo < s → ¬ kc d[n - s]!.1 d[s - 1]!.1 < 0) (f2 : s < r → kc d[n - 1 - s]!.1 d[s]!.1 < 0) :
    (∀ i j, a ≤ i → i < s → n - s ≤ j → j < b → ¬ kc d[j]!.1 d[i]!.1 < 0) ∧ (∀ i j, s ≤ i → i < m → m ≤ j → j < n - s → kc d[j]!.1 d[i]!.1 < 0) := by
  have a1 := srt_sg.1 sA
  have b1 := srt_sg.1 sB
  refine ⟨fun i j i1 i2 j1 j2 => ?_, fun i j i1 i2 j1 j2 => ?_⟩
  · have hls' : lo < s := by omega
    have p := f1 hls'
    have p1 : ¬ kc d[n - s]!.1 d[i]!.1 < 0 := by
      rcases Nat.eq_or_lt_of_le (show i ≤ s - 1 by omega) with h | h
      · rw [h]; exact p
      · exact kc_le_trans (a1 i (s - 1) i1 h (by omega)) p
    rcases Nat.eq_or_lt_of_le j1 with h | h
    · rw [← h]; exact p1
    · exact kc_le_trans p1 (b1 (n - s) j (by omega) h j2)
  · have hsr' : s < r := by omega
    have p := f2 hsr'
    have p1 : kc d[n - 1 - s]!.1 d[i]!.1 < 0 := by
      rcases Nat.eq_or_lt_of_le i1 with h | h
      · rw [← h]; exact p
      · exact kc_lt_le' p (a1 s i (by omega) h i2)
    rcases Nat.eq_or_lt_of_le (show j ≤ n - 1 - s by omega) with h | h
    · rw [h]; exact p1
    · exact kc_le_lt (b1 j (n - 1 - s) j1 h (by omega)) p1
end Go.Proofs.YtigmhbgdnmkooaaDoor

/- Sorting by blocks and merging them, purely. -/
namespace Go.Proofs.YtigmhbgdnmkooaaDoor
open Go Go.RowKit Go.Lib Go.Sort
set_option linter.unusedVariables false

/-- From lo on, blocks of s, as far as hi, are each sorted. -/
def Blks (s : Nat) (d : Array A2) (lo hi : Nat) : Prop := ∀ t i j, lo + s * t ≤ i → i < j → j < lo + s * t + s → j < hi → ¬ kc d[j]!.1 d[i]!.1 < 0
theorem Mg.whole {a b n : Nat} {d d' : Array A2} (h : Mg a b d d') (h1 : a ≤ b) (h2 : b ≤ n) : SL (sg d 0 n) (sg d' 0 n) := by
  rw [sg_append d (a := 0) (m := a) (b := n) (by omega) (by omega), sg_append d (a := a) (m := b) (b := n) h1 h2, sg_append d' (a := 0) (m := a) (b := n) (by omega) (by omega), sg_append d' (a := a) (m := b) (b := n) h1 h2]
  rw [sg_same (d := d) (d' := d') (a := 0) (b := a) fun k _ hk => h.rest k (Or.inl hk), sg_same (d := d) (d' := d') (a := b) (b := n) fun k hk _ => h.rest k (Or.inr hk)]
  exact (SL.refl _).append (h.sl.append (SL.refl _))
theorem blk_none (s : Nat) (d : Array A2) (lo : Nat) : Blks s d lo 0 := fun t i j _ _ _ h => absurd h (Nat.not_lt_zero _)
/-- The next block is sorted. -/
theorem blk_grow {s T a b : Nat} {d d' : Array A2} (ha : a = s * T) (M : Mg a b d d') (hb : b ≤ a + s) (L : Blks s d 0 a) : Blks s d' 0 b := by
  intro t i j h1 h2 h3 h4
  have S := srt_sg.1 M.srt
  rcases Nat.lt_trichotomy t T with ht | ht | ht
  · have h5 := Nat.mul_le_mul_left s (show t + 1 ≤ T from ht)
    rw [Nat.mul_add, Nat.mul_one] at h5
    rw [M.rest j (by omega), M.rest i (by omega)]
    exact L t i j h1 h2 h3 (by omega)
  · subst ht
    exact S i j (by omega) h2 h4
  · have h5 := Nat.mul_le_mul_left s (show T + 1 ≤ t from ht)
    rw [Nat.mul_add, Nat.mul_one] at h5
    omega
theorem blk_rest {s a b n : Nat} {d d' : Array A2} (M : Mg a b d d') (hb : b = a + 2 * s) (U : Blks s d a n) : Blks s d' b n := by
  subst hb
  intro t i j h1 h2 h3 h4
  rw [M.rest j (by omega), M.rest i (by omega)]
  have e : s * (t + 2) = s * t + s * 2 := Nat.mul_add ..
  exact U (t + 2) i j (by omega) h2 (by omega) h4
theorem blk_srt {s a n t x y : Nat} {d : Array A2} (U : Blks s d a n) (hx : x = a + s * t) (hy : y ≤ x + s) (hn : y ≤ n) : Srt (sg d x y) :=
  srt_sg.2 fun i j h1 h2 h3 => U t i j (by omega) h2 (by omega) (by omega)
/-- The last block has no partner. -/
theorem blk_last {s T a n : Nat} {d : Array A2} (ha : a = 2 * s * T) (L : Blks (2 * s) d 0 a) (U : Blks s d a n) (han : a ≤ n) (h : n ≤ a + s) : Blks (2 * s) d 0 n :=
  blk_grow ha (Mg.refl (blk_srt (t := 0) U (by omega) h (Nat.le_refl _))) (by omega) L
theorem blk_all {s n : Nat} {d : Array A2} (U : Blks s d 0 n) (h : n ≤ s) : Srt (sg d 0 n) := blk_srt (t := 0) U (by omega) (by omega) (Nat.le_refl _)
theorem sg_toList (d : Array A2) : sg d 0 d.size = d.toList := by
  apply List.ext_getElem
  · simp [sg]
  · intro k h1 h2
    simp only [sg, List.getElem_map, List.getElem_range', Array.getElem_toList]
    rw [Nat.zero_add, Nat.one_mul]
    exact getElem!_pos d k (by simpa using h2)
/-- Insertion sort of a range, said of runs. -/
theorem insR_mg {a b : Nat} {d : Array A2} (hab : a ≤ b) (hb : b ≤ d.size) : Mg a b d (insR a (b - (a + 1)) (a + 1) d) := by
  rcases Nat.eq_or_lt_of_le hab with rfl | hlt
  · rw [show a - (a + 1) = 0 by omega, insR]
    exact Mg.refl (by rw [sg_nil d (Nat.le_refl _)]; exact List.Pairwise.nil)
  obtain ⟨P, q, R, T, rfl, hP, hR⟩ : ∃ (P : List A2) (q : A2) (R T : List A2), d = (P ++ ([q] ++ (R ++ T))).toArray ∧ P.length = a ∧ R.length = b - (a + 1) := by
    have hl : d.toList.length = d.size := Array.length_toList
    refine ⟨d.toList.take a, d.toList[a]'(by omega), (d.toList.drop (a + 1)).take (b - (a + 1)), (d.toList.drop (a + 1)).drop (b - (a + 1)), ?_, by rw [List.length_take]; omega, by rw [List.length_take, List.length_drop]; omega⟩
    rw [List.take_append_drop, List.singleton_append, List.getElem_cons_drop, List.take_append_drop]
  obtain ⟨M, h1, h2, h3⟩ := insR_ok P R [q] T (List.pairwise_singleton _ _)
  have h1' : insR a (b - (a + 1)) (a + 1) (P ++ ([q] ++ (R ++ T))).toArray = (P ++ (M ++ T)).toArray := by rw [List.length_singleton, hP, hR] at h1; exact h1
  have hM : M.length = R.length + 1 := by have := h2.perm.length_eq; rw [this, List.length_append, List.length_singleton]; omega
  have get : ∀ (L : List A2) k, L.toArray[k]! = L[k]?.getD default := fun L k => (getElem!_def L.toArray k).trans (by rw [List.getElem?_toArray]; cases L[k]? <;> rfl)
  have seg : ∀ (M' : List A2), M'.length = b - a → sg (P ++ (M' ++ T)).toArray a b = M' := fun M' hM' => by
    apply List.ext_getElem?
    intro k
    unfold sg
    rw [List.getElem?_map]
    by_cases hk : k < b - a
    · rw [List.getElem?_range' hk, Option.map_some, get, List.getElem?_append_right (by omega), List.getElem?_append_left (by omega), Nat.one_mul, show a + k - P.length = k by omega, List.getElem?_eq_getElem (by omega)]; rfl
    · rw [List.getElem?_eq_none (by rw [List.length_range']; omega), List.getElem?_eq_none (by omega)]; rfl
  have e1 := seg M (by omega)
  have e2 := seg ([q] ++ R) (by rw [List.length_append, List.length_singleton]; omega)
  rw [List.append_assoc] at e2
  rw [h1']
  refine ⟨by simp only [List.size_toArray, List.length_append, List.length_singleton, hM]; omega, fun k hk => ?_, by rw [e1, e2]; exact h2, by rw [e1]; exact h3⟩
  rw [get, get]
  congr 1
  rcases hk with hk | hk
  · rw [List.getElem?_append_left (by omega), List.getElem?_append_left (by omega)]
  · rw [List.getElem?_append_right (by omega), List.getElem?_append_right (by omega), List.getElem?_append_right (by omega), List.getElem?_append_right (by rw [List.length_singleton]; omega), List.getElem?_append_right (by rw [List.length_singleton]; omega)]
    congr 1
    rw [List.length_singleton]
    omega
end Go.Proofs.YtigmhbgdnmkooaaDoor

/- slices.symMergeCmpFunc at pairs, by their keys: one pair ahead of a sorted run. -/
namespace Go.Proofs.YtigmhbgdnmkooaaDoor
open Go Go.RowKit Go.Lib Go.Sort
set_option linter.unusedVariables false

/-- What byKey says, and what it leaves (Sk shows it). -/
def ByK : Prop := ∀ (x y : A2) (w0 : World) (blk : Nat) (d : Array A2) (W : World), SWK encA 4 w0 blk 0 d W → Calls Tryd.prog 41 #[atV x, atV y] W fun e w' => e = .returned (.int .i64 (kc x.1 y.1)) ∧ SWK encA 4 w0 blk 0 d w'
theorem swk_at {w0 W : World} {blk : Nat} {d0 dk : Array A2} (S : SWK encA 4 w0 blk 0 dk W) (R : RowK encA 4 w0 blk 0 d0) (hs : dk.size = d0.size) (i : Nat) (hi : i < dk.size) {x0 : ByteArray} {x1 x2 : Int} {x3 : ByteArray} (hx : dk[i]! = (x0, x1, x2, x3)) :
    (W.cell? ⟨blk, i * 4, none⟩ = some (.string x0) ∧ W.cell? ⟨blk, i * 4 + 1, none⟩ = some (.int .i64 x1) ∧ W.cell? ⟨blk, i * 4 + 2, none⟩ = some (.int .i64 x2) ∧ W.cell? ⟨blk, i * 4 + 3, none⟩ = some (.string x3)) ∧
    W.frozen? ⟨blk, i * 4, none⟩ = false ∧ W.frozen? ⟨blk, i * 4 + 1, none⟩ = false ∧ W.frozen? ⟨blk, i * 4 + 2, none⟩ = false ∧ W.frozen? ⟨blk, i * 4 + 3, none⟩ = false := by
  have hH : HoldsK encA 4 W blk 0 dk := S.holds R.hblk R.hH hs
  have h : ∀ c, c < 4 → W.cell? ⟨blk, i * 4 + c, none⟩ = some ((encA dk[i]!)[c]!) ∧ W.frozen? ⟨blk, i * 4 + c, none⟩ = false := fun c hc => by
    have := hH.cell (i := i) hi (c := c) hc
    rwa [Nat.zero_add] at this
  rw [hx] at h
  exact ⟨⟨(h 0 (by omega)).1, (h 1 (by omega)).1, (h 2 (by omega)).1, (h 3 (by omega)).1⟩, (h 0 (by omega)).2, (h 1 (by omega)).2, (h 2 (by omega)).2, (h 3 (by omega)).2⟩

set_option maxHeartbeats 4000000 in
set_option maxRecDepth 1000000 in
theorem sym_one (hK : ByK) (blk cap a m b : Nat) (d0 d : Array A2) (w0 w : World) (R : RowK encA 4 w0 blk 0 d0) (hs : d0.size = d.size) (S : SWK encA 4 w0 blk 0 d w) (hm : m = a + 1) (hmb : m ≤ b) (hb : b ≤ d.size) (hsz : d.size < 4611686018427387904) (sB : Srt (sg d m b)) :
    Calls Tryd.prog 78 #[.slice (some ⟨blk, 0, none⟩) d.size cap, .int .i64 a, .int .i64 m, .int .i64 b, .func (.func 41) #[] #[]] w fun e w' => e = .returned (.tuple #[]) ∧ ∃ d', Mg a b d d' ∧ SWK encA 4 w0 blk 0 d' w' := by
  have S0 : Hid (SWK encA 4 w0 blk 0 d w) := S
  have HR : Hid (RowK encA 4 w0 blk 0 d0) := R
  have HB : Hid (Srt (sg d m b) ∧ m = a + 1 ∧ b ≤ d.size) := ⟨sB, hm, hb⟩
  have HK : Hid ByK := hK
  obtain ⟨Z, hZ⟩ : ∃ Z, d.size = Z := ⟨_, rfl⟩
  have HZ : Hid (d.size = Z ∧ d0.size = Z) := ⟨hZ, by omega⟩
  rw [hZ] at hb hsz ⊢
  have em : (m : Int) - (a : Int) = 1 := by omega
  have haz : a < Z := by omega
  have bA : (a : Int) < (Z : Int) := by omega
  have bA0 : (0 : Int) ≤ (a : Int) := by omega
  obtain ⟨⟨y0, y1, y2, y3⟩, hY⟩ : ∃ q, d[a]! = q := ⟨_, rfl⟩
  have HY : Hid (d[a]! = (y0, y1, y2, y3)) := hY
  clear S R hs hZ sB hK hY hm
  have eg := enters_of Tryd.func41 (by kernel_rfl) rfl
  go_enter Tryd.func78, Tryd.ntmps78
  go_wp2
  go_loopw [10, 11, 12] (fun s t u wr => ∃ (i j : Nat), m ≤ i ∧ i ≤ j ∧ j ≤ b ∧ s = .int .i64 i ∧ t = .int .i64 j ∧ Hid (SWK encA 4 w0 blk 0 d wr ∧ (∀ k, m ≤ k → k < i → kc d[k]!.1 y0 < 0) ∧ ∀ k, j ≤ k → k < b → ¬ kc d[k]!.1 y0 < 0)) (fun s t _ _ => (RowKit.intOf t).toNat - (RowKit.intOf s).toNat)
  case atStart => exact ⟨m, b, Nat.le_refl _, hmb, Nat.le_refl _, rfl, rfl, S0.out, fun k h h' => by omega, fun k h h' => by omega⟩
  case round =>
    clear S0
    obtain ⟨i, j, hmi, hij, hjb, rfl, rfl, H⟩ := hrel
    by_cases hlt : i < j
    · have hltI : (i : Int) < (j : Int) := by omega
      obtain ⟨h, hh⟩ : ∃ h, (i + j) / 2 = h := ⟨_, rfl⟩
      have he : ((i : Int) + (j : Int)) / 2 = (h : Int) := by omega
      have hih : i ≤ h := by omega
      have hhj : h < j := by omega
      have hhI : (h : Int) < (Z : Int) := by omega
      have hhO : (0 : Int) ≤ (h : Int) := by omega
      obtain ⟨⟨x0, x1, x2, x3⟩, hX⟩ : ∃ q, d[h]! = q := ⟨_, rfl⟩
      have HX : Hid (∀ w', SWK encA 4 w0 blk 0 d w' → (w'.cell? ⟨blk, h * 4, none⟩ = some (.string x0) ∧ w'.cell? ⟨blk, h * 4 + 1, none⟩ = some (.int .i64 x1) ∧ w'.cell? ⟨blk, h * 4 + 2, none⟩ = some (.int .i64 x2) ∧ w'.cell? ⟨blk, h * 4 + 3, none⟩ = some (.string x3) ∧ w'.cell? ⟨blk, a * 4, none⟩ = some (.string y0) ∧ w'.cell? ⟨blk, a * 4 + 1, none⟩ = some (.int .i64 y1) ∧ w'.cell? ⟨blk, a * 4 + 2, none⟩ = some (.int .i64 y2) ∧ w'.cell? ⟨blk, a * 4 + 3, none⟩ = some (.string y3))) := fun w' hw => by
        have h1 := (swk_at hw HR.out (by rw [HZ.out.1, HZ.out.2]) h (by rw [HZ.out.1]; omega) hX).1
        have h2 := (swk_at hw HR.out (by rw [HZ.out.1, HZ.out.2]) a (by rw [HZ.out.1]; omega) HY.out).1
        exact ⟨h1.1, h1.2.1, h1.2.2.1, h1.2.2.2, h2.1, h2.2.1, h2.2.2.1, h2.2.2.2⟩
      have cK : ∀ W, SWK encA 4 w0 blk 0 d W → Calls Tryd.prog 41 #[atV (x0, x1, x2, x3), atV (y0, y1, y2, y3)] W fun e w' => e = .returned (.int .i64 (kc x0 y0)) ∧ SWK encA 4 w0 blk 0 d w' := fun W hW => HK.out (x0, x1, x2, x3) (y0, y1, y2, y3) w0 blk d W hW
      have s0 := H.out.1
      obtain ⟨c0, c1, c2, c3, e0, e1, e2, e3⟩ := HX.out _ s0
      have mo := up_mono (a := a) (h := h) HB.out.1 (by omega) (by omega)
      rw [hX, HY.out] at mo
      have HM : Hid _ := mo
      clear hX mo
      by_cases hk : kc x0 y0 < 0
      · have HF : Hid ((∀ k, m ≤ k → k < h + 1 → kc d[k]!.1 y0 < 0) ∧ ∀ k, j ≤ k → k < b → ¬ kc d[k]!.1 y0 < 0) := ⟨fun k k1 k2 => HM.out.1 hk k k1 (by omega), H.out.2.2⟩
        clear H HM
        go_wp2_with fail
        go_region_held3 (fun w' => (w'.cell? ⟨blk, h * 4, none⟩ = some (.string x0) ∧ w'.cell? ⟨blk, h * 4 + 1, none⟩ = some (.int .i64 x1) ∧ w'.cell? ⟨blk, h * 4 + 2, none⟩ = some (.int .i64 x2) ∧ w'.cell? ⟨blk, h * 4 + 3, none⟩ = some (.string x3) ∧ w'.cell? ⟨blk, a * 4, none⟩ = some (.string y0) ∧ w'.cell? ⟨blk, a * 4 + 1, none⟩ = some (.int .i64 y1) ∧ w'.cell? ⟨blk, a * 4 + 2, none⟩ = some (.int .i64 y2) ∧ w'.cell? ⟨blk, a * 4 + 3, none⟩ = some (.string y3)) ∧ SWK encA 4 w0 blk 0 d w')
          (exact ⟨by first | (with_reducible assumption) | (simp [*]; done), by first | (with_reducible assumption) | exact s0.drew⟩)
          (first | (go_at_call 41; refine (cK _ ?_).mono ?_; (· first | assumption | (apply And.right; assumption)); rintro r w3 ⟨rfl, s3⟩; have mm := HX.out _ s3))
        go_wp2
        go_roundw
        case rel => exact ⟨h + 1, j, by omega, by omega, hjb, by go_num, rfl, s3, HF.out.1, fun k k1 k2 => by have := HF.out.2 k k1 k2; omega⟩
        case measure => simp [RowKit.intOf]; omega
      · have HF : Hid ((∀ k, m ≤ k → k < i → kc d[k]!.1 y0 < 0) ∧ ∀ k, h ≤ k → k < b → ¬ kc d[k]!.1 y0 < 0) := ⟨H.out.2.1, fun k k1 k2 => HM.out.2 hk k k1 k2⟩
        clear H HM
        go_wp2_with fail
        go_region_held3 (fun w' => (w'.cell? ⟨blk, h * 4, none⟩ = some (.string x0) ∧ w'.cell? ⟨blk, h * 4 + 1, none⟩ = some (.int .i64 x1) ∧ w'.cell? ⟨blk, h * 4 + 2, none⟩ = some (.int .i64 x2) ∧ w'.cell? ⟨blk, h * 4 + 3, none⟩ = some (.string x3) ∧ w'.cell? ⟨blk, a * 4, none⟩ = some (.string y0) ∧ w'.cell? ⟨blk, a * 4 + 1, none⟩ = some (.int .i64 y1) ∧ w'.cell? ⟨blk, a * 4 + 2, none⟩ = some (.int .i64 y2) ∧ w'.cell? ⟨blk, a * 4 + 3, none⟩ = some (.string y3)) ∧ SWK encA 4 w0 blk 0 d w')
          (exact ⟨by first | (with_reducible assumption) | (simp [*]; done), by first | (with_reducible assumption) | exact s0.drew⟩)
          (first | (go_at_call 41; refine (cK _ ?_).mono ?_; (· first | assumption | (apply And.right; assumption)); rintro r w3 ⟨rfl, s3⟩; have mm := HX.out _ s3))
        go_wp2
        go_roundw
        case rel => exact ⟨i, h, hmi, hih, by omega, rfl, rfl, s3, HF.out.1, fun k k1 k2 => by have := HF.out.2 k k1 k2; omega⟩
        case measure => simp [RowKit.intOf]; omega
    · have hltI : ¬ (i : Int) < (j : Int) := by omega
      obtain rfl : i = j := by omega
      have HG : Hid (Mg a b d (mvU d a (i - 1 - a))) := by
        refine one_up (by have := HB.out.2.1; omega) hjb HB.out.2.2 (by have := HB.out.1; rwa [HB.out.2.1] at this) (fun k k1 k2 => ?_) (fun k k1 k2 => ?_)
        · rw [HY.out]; exact H.out.2.1 k (by have := HB.out.2.1; omega) k2
        · rw [HY.out]; exact H.out.2.2 k k1 k2
      have HS : Hid (SWK encA 4 w0 blk 0 d wr) := H.out.1
      have hai : a + 1 ≤ i := by have := HB.out.2.1; omega
      clear H em
      go_wp2_with fail
      go_loopw [13] (fun t wr => ∃ (k : Nat), a + k ≤ i - 1 ∧ t = .int .i64 ((a + k : Nat) : Int) ∧ Hid (SWK encA 4 w0 blk 0 (mvU d a k) wr)) (fun t _ => (i - 1) - (RowKit.intOf t).toNat)
      case atStart => exact ⟨0, by omega, rfl, HS.out⟩
      case round =>
        clear HS
        obtain ⟨k, hk, rfl, H⟩ := hrel
        obtain ⟨l, hl⟩ : ∃ l, a + k = l := ⟨_, rfl⟩
        rw [hl] at hk ⊢
        by_cases hlt2 : l < i - 1
        · obtain ⟨u, hu⟩ : ∃ u, l + 1 = u := ⟨_, rfl⟩
          have hltI2 : (l : Int) < (i : Int) - 1 := by omega
          have ew : IntKind.i64.wrap ((l : Int) + 1) = (l : Int) + 1 := by rw [IntKind.wrap_i64]; omega
          have en : ((l : Int) + 1).toNat = u := by omega
          have bl : (l : Int) < (Z : Int) := by omega
          have bu : (l : Int) + 1 < (Z : Int) := by omega
          have b0 : (0 : Int) ≤ (l : Int) := by omega
          have b1 : (0 : Int) ≤ (l : Int) + 1 := by omega
          clear HY bA bA0
          obtain ⟨dk, hdk⟩ : ∃ dk, mvU d a k = dk := ⟨_, rfl⟩
          have hz : dk.size = Z := by rw [← hdk, mvU_size]; exact HZ.out.1
          have HD : Hid (mvU d a (k + 1) = swp dk l u ∧ dk.size = Z) := ⟨by rw [mvU, hdk, hl, hu], hz⟩
          have S6 : Hid (SWK encA 4 w0 blk 0 dk wr) := by have := H.out; rwa [hdk] at this
          clear H hdk
          obtain ⟨⟨p0, p1, p2, p3⟩, hX⟩ : ∃ q, dk[l]! = q := ⟨_, rfl⟩
          obtain ⟨⟨q0, q1, q2, q3⟩, hY⟩ : ∃ q, dk[u]! = q := ⟨_, rfl⟩
          have HC6 := swk_at S6.out HR.out (by rw [hz, HZ.out.2]) l (by omega) hX
          have HD6 := swk_at S6.out HR.out (by rw [hz, HZ.out.2]) u (by omega) hY
          have HXY : Hid (dk[l]! = (p0, p1, p2, p3) ∧ dk[u]! = (q0, q1, q2, q3)) := ⟨hX, hY⟩
          obtain ⟨⟨c0, c1, c2, c3⟩, f0, f1, f2, f3⟩ := HC6
          obtain ⟨⟨e0, e1, e2, e3⟩, g0, g1, g2, g3⟩ := HD6
          have n00 : ¬ l * 4 = u * 4 := by omega
          have m00 : ¬ u * 4 = l * 4 := by omega
          have n01 : ¬ l * 4 = u * 4 + 1 := by omega
          have m01 : ¬ u * 4 + 1 = l * 4 := by omega
          have n02 : ¬ l * 4 = u * 4 + 2 := by omega
          have m02 : ¬ u * 4 + 2 = l * 4 := by omega
          have n03 : ¬ l * 4 = u * 4 + 3 := by omega
          have m03 : ¬ u * 4 + 3 = l * 4 := by omega
          have n10 : ¬ l * 4 + 1 = u * 4 := by omega
          have m10 : ¬ u * 4 = l * 4 + 1 := by omega
          have n11 : ¬ l * 4 + 1 = u * 4 + 1 := by omega
          have m11 : ¬ u * 4 + 1 = l * 4 + 1 := by omega
          have n12 : ¬ l * 4 + 1 = u * 4 + 2 := by omega
          have m12 : ¬ u * 4 + 2 = l * 4 + 1 := by omega
          have n13 : ¬ l * 4 + 1 = u * 4 + 3 := by omega
          have m13 : ¬ u * 4 + 3 = l * 4 + 1 := by omega
          have n20 : ¬ l * 4 + 2 = u * 4 := by omega
          have m20 : ¬ u * 4 = l * 4 + 2 := by omega
          have n21 : ¬ l * 4 + 2 = u * 4 + 1 := by omega
          have m21 : ¬ u * 4 + 1 = l * 4 + 2 := by omega
          have n22 : ¬ l * 4 + 2 = u * 4 + 2 := by omega
          have m22 : ¬ u * 4 + 2 = l * 4 + 2 := by omega
          have n23 : ¬ l * 4 + 2 = u * 4 + 3 := by omega
          have m23 : ¬ u * 4 + 3 = l * 4 + 2 := by omega
          have n30 : ¬ l * 4 + 3 = u * 4 := by omega
          have m30 : ¬ u * 4 = l * 4 + 3 := by omega
          have n31 : ¬ l * 4 + 3 = u * 4 + 1 := by omega
          have m31 : ¬ u * 4 + 1 = l * 4 + 3 := by omega
          have n32 : ¬ l * 4 + 3 = u * 4 + 2 := by omega
          have m32 : ¬ u * 4 + 2 = l * 4 + 3 := by omega
          have n33 : ¬ l * 4 + 3 = u * 4 + 3 := by omega
          have m33 : ¬ u * 4 + 3 = l * 4 + 3 := by omega
          clear hX hY hz
          go_wp2_with fail
          have S3 : Hid (SWK encA 4 w0 blk 0 (swp dk l u) (((((((((wr.setCell ⟨blk, l * 4, none⟩ (.string q0)).setCell ⟨blk, l * 4 + 1, none⟩ (.int .i64 q1)).setCell ⟨blk, l * 4 + 2, none⟩ (.int .i64 q2)).setCell ⟨blk, l * 4 + 3, none⟩ (.string q3)).setCell ⟨blk, u * 4, none⟩ (.string p0)).setCell ⟨blk, u * 4 + 1, none⟩ (.int .i64 p1)).setCell ⟨blk, u * 4 + 2, none⟩ (.int .i64 p2)).setCell ⟨blk, u * 4 + 3, none⟩ (.string p3)).drew)) := by
            have h := S6.out.swapped HR.out l u (by rw [HD.out.2]; omega) (by rw [HD.out.2]; omega)
            rw [HXY.out.1, HXY.out.2, Nat.zero_add, Nat.zero_add, setCells4, setCells4] at h
            simp only [setCell_drew]
            exact h
          go_big_region
          generalize ((((((((wr.setCell ⟨blk, l * 4, none⟩ (.string q0)).setCell ⟨blk, l * 4 + 1, none⟩ (.int .i64 q1)).setCell ⟨blk, l * 4 + 2, none⟩ (.int .i64 q2)).setCell ⟨blk, l * 4 + 3, none⟩ (.string q3)).setCell ⟨blk, u * 4, none⟩ (.string p0)).setCell ⟨blk, u * 4 + 1, none⟩ (.int .i64 p1)).setCell ⟨blk, u * 4 + 2, none⟩ (.int .i64 p2)).setCell ⟨blk, u * 4 + 3, none⟩ (.string p3)).drew = w5 at S3 ⊢
          go_wp2
          go_roundw
          case rel => exact ⟨k + 1, by omega, by rw [show a + (k + 1) = l + 1 by omega]; go_num, by rw [HD.out.1]; exact S3.out⟩
          case measure => simp [RowKit.intOf]; omega
        · have hltI2 : ¬ (l : Int) < (i : Int) - 1 := by omega
          have HE : Hid (k = i - 1 - a) := by show _ = _; omega
          have HS : Hid (SWK encA 4 w0 blk 0 (mvU d a (i - 1 - a)) wr) := by have := H.out; rwa [HE.out] at this
          clear H
          go_wp2
          refine bodyPost_ret (results_none rfl _ _ _) rfl ?_
          exact ⟨rfl, _, HG.out, HS.out⟩
end Go.Proofs.YtigmhbgdnmkooaaDoor

/- slices.insertionSortCmpFunc at pairs, by their keys. -/
namespace Go.Proofs.YtigmhbgdnmkooaaDoor
open Go Go.RowKit Go.Lib Go.Sort
set_option linter.unusedVariables false

set_option maxHeartbeats 4000000 in
set_option maxRecDepth 1000000 in
theorem insertion_any (blk cap a b : Nat) (d0 d : Array A2) (w0 w : World) (R : RowK encA 4 w0 blk 0 d0) (hs : d0.size = d.size) (S : SWK encA 4 w0 blk 0 d w) (hab : a ≤ b) (hb : b ≤ d.size) (hsz : d.size < 4611686018427387904) :
    Calls Tryd.prog 77 #[.slice (some ⟨blk, 0, none⟩) d.size cap, .int .i64 a, .int .i64 b, .func (.func 41) #[] #[]] w fun e w' => e = .returned (.tuple #[]) ∧ SWK encA 4 w0 blk 0 (insR a (b - (a + 1)) (a + 1) d) w' := by
  have S0 : Hid (SWK encA 4 w0 blk 0 d w) := S
  have HR : Hid (RowK encA 4 w0 blk 0 d0) := R
  obtain ⟨Z, hZ⟩ : ∃ Z, d.size = Z := ⟨_, rfl⟩
  obtain ⟨RT, hRT⟩ : ∃ RT, insR a (b - (a + 1)) (a + 1) d = RT := ⟨_, rfl⟩
  rw [hRT]
  have HRT : Hid (insR a (b - (a + 1)) (a + 1) d = RT) := hRT
  have HZ : Hid (d.size = Z ∧ d0.size = Z) := ⟨hZ, by omega⟩
  rw [hZ] at hb hsz ⊢
  have eg := enters_of Tryd.func41 (by kernel_rfl) rfl
  clear S R hs hRT hZ
  go_enter Tryd.func77, Tryd.ntmps77
  go_wp2
  go_loopw [8, 9] (fun s t wr => ∃ (i : Nat) (dk : Array A2), a < i ∧ i ≤ b + 1 ∧ s = .int .i64 i ∧ Hid (SWK encA 4 w0 blk 0 dk wr ∧ dk.size = Z ∧ insR a (b - i) i dk = RT)) (fun s _ _ => b + 1 - (RowKit.intOf s).toNat)
  case atStart => exact ⟨a + 1, d, by omega, by omega, by go_num, S0.out, HZ.out.1, HRT.out⟩
  case round =>
    clear S0 HRT
    obtain ⟨i, dk, hai, hib, rfl, H⟩ := hrel
    by_cases hlt : i < b
    · have hltI : (i : Int) < (b : Int) := by omega
      have HI : Hid (insR a (b - (i + 1)) (i + 1) (insJ a i dk) = RT) := by
        have := H.out.2.2
        rw [show b - i = (b - (i + 1)) + 1 by omega, insR] at this
        exact this
      have HS : Hid (SWK encA 4 w0 blk 0 dk wr ∧ dk.size = Z) := ⟨H.out.1, H.out.2.1⟩
      clear H
      go_wp2_with fail
      go_loopw [9] (fun t wr => ∃ (j : Nat) (dk : Array A2), a ≤ j ∧ j ≤ i ∧ t = .int .i64 j ∧ Hid (SWK encA 4 w0 blk 0 dk wr ∧ dk.size = Z ∧ insR a (b - (i + 1)) (i + 1) (insJ a j dk) = RT)) (fun t _ => (RowKit.intOf t).toNat)
      case atStart => exact ⟨i, dk, by omega, Nat.le_refl _, rfl, HS.out.1, HS.out.2, HI.out⟩
      case round =>
        clear HS HI
        obtain ⟨j, dk, haj, hji, rfl, H⟩ := hrel
        by_cases hgt : a < j
        · have hgtI : (a : Int) < (j : Int) := by omega
          obtain ⟨l, hl⟩ : ∃ l, j = l + 1 := ⟨j - 1, by omega⟩
          have ew : IntKind.i64.wrap ((j : Int) - 1) = (j : Int) - 1 := by rw [IntKind.wrap_i64]; omega
          have en : ((j : Int) - 1).toNat = l := by omega
          have bj : (j : Int) < (Z : Int) := by omega
          have bl : (j : Int) - 1 < (Z : Int) := by omega
          have b0 : (0 : Int) ≤ (j : Int) := by omega
          have b1 : (0 : Int) ≤ (j : Int) - 1 := by omega
          have b2 : (1 : Int) ≤ (j : Int) := by omega
          have b3 : 1 ≤ j := by omega
          have b4 : j - 1 = l := by omega
          obtain ⟨⟨x0, x1, x2, x3⟩, hX⟩ : ∃ q, dk[j]! = q := ⟨_, rfl⟩
          obtain ⟨⟨y0, y1, y2, y3⟩, hY⟩ : ∃ q, dk[l]! = q := ⟨_, rfl⟩
          have HX : Hid (∀ w', SWK encA 4 w0 blk 0 dk w' → (w'.cell? ⟨blk, j * 4, none⟩ = some (.string x0) ∧ w'.cell? ⟨blk, j * 4 + 1, none⟩ = some (.int .i64 x1) ∧ w'.cell? ⟨blk, j * 4 + 2, none⟩ = some (.int .i64 x2) ∧ w'.cell? ⟨blk, j * 4 + 3, none⟩ = some (.string x3) ∧ w'.cell? ⟨blk, l * 4, none⟩ = some (.string y0) ∧ w'.cell? ⟨blk, l * 4 + 1, none⟩ = some (.int .i64 y1) ∧ w'.cell? ⟨blk, l * 4 + 2, none⟩ = some (.int .i64 y2) ∧ w'.cell? ⟨blk, l * 4 + 3, none⟩ = some (.string y3))) := fun w' hw => by
            have h1 := (swk_at hw HR.out (by rw [H.out.2.1, HZ.out.2]) j (by rw [H.out.2.1]; omega) hX).1
            have h2 := (swk_at hw HR.out (by rw [H.out.2.1, HZ.out.2]) l (by rw [H.out.2.1]; omega) hY).1
            exact ⟨h1.1, h1.2.1, h1.2.2.1, h1.2.2.2, h2.1, h2.2.1, h2.2.2.1, h2.2.2.2⟩
          have cK : ∀ W, SWK encA 4 w0 blk 0 dk W → Calls Tryd.prog 41 #[atV (x0, x1, x2, x3), atV (y0, y1, y2, y3)] W fun e w' => e = .returned (.int .i64 (kc x0 y0)) ∧ SWK encA 4 w0 blk 0 dk w' := fun W hW => (byKey_any (x0, x1, x2, x3) (y0, y1, y2, y3) W).mono fun e w' ⟨h1, h2⟩ => ⟨h1, by rw [h2]; exact (hW.alloc _).alloc _⟩
          have s0 := H.out.1
          obtain ⟨c0, c1, c2, c3, e0, e1, e2, e3⟩ := HX.out _ s0
          have HXY : Hid (dk[j]! = (x0, x1, x2, x3) ∧ dk[l]! = (y0, y1, y2, y3) ∧ j = l + 1) := ⟨hX, hY, hl⟩
          clear hX hY hl
          by_cases hk : kc x0 y0 < 0
          · have HF : Hid (insR a (b - (i + 1)) (i + 1) (insJ a l (swp dk j l)) = RT ∧ dk.size = Z) := ⟨by
              have h := H.out.2.2
              obtain ⟨h1, h2, rfl⟩ := HXY.out
              rw [insJ, if_pos ⟨hgt, by rw [h1, h2]; exact hk⟩] at h
              exact h, H.out.2.1⟩
            clear H
            go_wp2_with fail
            go_region_held3 (fun w' => (w'.cell? ⟨blk, j * 4, none⟩ = some (.string x0) ∧ w'.cell? ⟨blk, j * 4 + 1, none⟩ = some (.int .i64 x1) ∧ w'.cell? ⟨blk, j * 4 + 2, none⟩ = some (.int .i64 x2) ∧ w'.cell? ⟨blk, j * 4 + 3, none⟩ = some (.string x3) ∧ w'.cell? ⟨blk, l * 4, none⟩ = some (.string y0) ∧ w'.cell? ⟨blk, l * 4 + 1, none⟩ = some (.int .i64 y1) ∧ w'.cell? ⟨blk, l * 4 + 2, none⟩ = some (.int .i64 y2) ∧ w'.cell? ⟨blk, l * 4 + 3, none⟩ = some (.string y3)) ∧ SWK encA 4 w0 blk 0 dk w')
              (exact ⟨by first | (with_reducible assumption) | (simp [*]; done), by first | (with_reducible assumption) | exact s0.drew⟩)
              (first | (go_at_call 41; refine (cK _ ?_).mono ?_; (· first | assumption | (apply And.right; assumption)); rintro r w3 ⟨rfl, s3⟩; have mm := HX.out _ s3))
            have S6 : Hid (SWK encA 4 w0 blk 0 dk w3) := s3
            have HC6 := swk_at s3 HR.out (by rw [HF.out.2, HZ.out.2]) j (by rw [HF.out.2]; omega) HXY.out.1
            have HD6 := swk_at s3 HR.out (by rw [HF.out.2, HZ.out.2]) l (by rw [HF.out.2]; omega) HXY.out.2.1
            obtain ⟨⟨c0, c1, c2, c3⟩, f0, f1, f2, f3⟩ := HC6
            obtain ⟨⟨e0, e1, e2, e3⟩, g0, g1, g2, g3⟩ := HD6
            have n00 : ¬ j * 4 = l * 4 := by have := HXY.out.2.2; omega
            have m00 : ¬ l * 4 = j * 4 := by have := HXY.out.2.2; omega
            have n01 : ¬ j * 4 = l * 4 + 1 := by have := HXY.out.2.2; omega
            have m01 : ¬ l * 4 + 1 = j * 4 := by have := HXY.out.2.2; omega
            have n02 : ¬ j * 4 = l * 4 + 2 := by have := HXY.out.2.2; omega
            have m02 : ¬ l * 4 + 2 = j * 4 := by have := HXY.out.2.2; omega
            have n03 : ¬ j * 4 = l * 4 + 3 := by have := HXY.out.2.2; omega
            have m03 : ¬ l * 4 + 3 = j * 4 := by have := HXY.out.2.2; omega
            have n10 : ¬ j * 4 + 1 = l * 4 := by have := HXY.out.2.2; omega
            have m10 : ¬ l * 4 = j * 4 + 1 := by have := HXY.out.2.2; omega
            have n11 : ¬ j * 4 + 1 = l * 4 + 1 := by have := HXY.out.2.2; omega
            have m11 : ¬ l * 4 + 1 = j * 4 + 1 := by have := HXY.out.2.2; omega
            have n12 : ¬ j * 4 + 1 = l * 4 + 2 := by have := HXY.out.2.2; omega
            have m12 : ¬ l * 4 + 2 = j * 4 + 1 := by have := HXY.out.2.2; omega
            have n13 : ¬ j * 4 + 1 = l * 4 + 3 := by have := HXY.out.2.2; omega
            have m13 : ¬ l * 4 + 3 = j * 4 + 1 := by have := HXY.out.2.2; omega
            have n20 : ¬ j * 4 + 2 = l * 4 := by have := HXY.out.2.2; omega
            have m20 : ¬ l * 4 = j * 4 + 2 := by have := HXY.out.2.2; omega
            have n21 : ¬ j * 4 + 2 = l * 4 + 1 := by have := HXY.out.2.2; omega
            have m21 : ¬ l * 4 + 1 = j * 4 + 2 := by have := HXY.out.2.2; omega
            have n22 : ¬ j * 4 + 2 = l * 4 + 2 := by have := HXY.out.2.2; omega
            have m22 : ¬ l * 4 + 2 = j * 4 + 2 := by have := HXY.out.2.2; omega
            have n23 : ¬ j * 4 + 2 = l * 4 + 3 := by have := HXY.out.2.2; omega
            have m23 : ¬ l * 4 + 3 = j * 4 + 2 := by have := HXY.out.2.2; omega
            have n30 : ¬ j * 4 + 3 = l * 4 := by have := HXY.out.2.2; omega
            have m30 : ¬ l * 4 = j * 4 + 3 := by have := HXY.out.2.2; omega
            have n31 : ¬ j * 4 + 3 = l * 4 + 1 := by have := HXY.out.2.2; omega
            have m31 : ¬ l * 4 + 1 = j * 4 + 3 := by have := HXY.out.2.2; omega
            have n32 : ¬ j * 4 + 3 = l * 4 + 2 := by have := HXY.out.2.2; omega
            have m32 : ¬ l * 4 + 2 = j * 4 + 3 := by have := HXY.out.2.2; omega
            have n33 : ¬ j * 4 + 3 = l * 4 + 3 := by have := HXY.out.2.2; omega
            have m33 : ¬ l * 4 + 3 = j * 4 + 3 := by have := HXY.out.2.2; omega
            clear s3 mm
            go_wp2_with fail
            have S3 : Hid (SWK encA 4 w0 blk 0 (swp dk j l) (((((((((w3.setCell ⟨blk, j * 4, none⟩ (.string y0)).setCell ⟨blk, j * 4 + 1, none⟩ (.int .i64 y1)).setCell ⟨blk, j * 4 + 2, none⟩ (.int .i64 y2)).setCell ⟨blk, j * 4 + 3, none⟩ (.string y3)).setCell ⟨blk, l * 4, none⟩ (.string x0)).setCell ⟨blk, l * 4 + 1, none⟩ (.int .i64 x1)).setCell ⟨blk, l * 4 + 2, none⟩ (.int .i64 x2)).setCell ⟨blk, l * 4 + 3, none⟩ (.string x3)).drew)) := by
              have h := S6.out.swapped HR.out j l (by rw [HF.out.2]; omega) (by rw [HF.out.2]; omega)
              rw [HXY.out.1, HXY.out.2.1, Nat.zero_add, Nat.zero_add, setCells4, setCells4] at h
              simp only [setCell_drew]
              exact h
            go_big_region
            generalize ((((((((w3.setCell ⟨blk, j * 4, none⟩ (.string y0)).setCell ⟨blk, j * 4 + 1, none⟩ (.int .i64 y1)).setCell ⟨blk, j * 4 + 2, none⟩ (.int .i64 y2)).setCell ⟨blk, j * 4 + 3, none⟩ (.string y3)).setCell ⟨blk, l * 4, none⟩ (.string x0)).setCell ⟨blk, l * 4 + 1, none⟩ (.int .i64 x1)).setCell ⟨blk, l * 4 + 2, none⟩ (.int .i64 x2)).setCell ⟨blk, l * 4 + 3, none⟩ (.string x3)).drew = w5 at S3 ⊢
            go_wp2
            go_roundw
            case rel => exact ⟨l, _, by have := HXY.out.2.2; omega, by have := HXY.out.2.2; omega, by rw [show ((l : Nat) : Int) = (j : Int) - 1 by omega], S3.out, by rw [size_swp]; exact HF.out.2, HF.out.1⟩
            case measure => simp [RowKit.intOf]; omega
          · have HF : Hid (insR a (b - (i + 1)) (i + 1) dk = RT ∧ dk.size = Z) := ⟨by
              have h := H.out.2.2
              obtain ⟨h1, h2, rfl⟩ := HXY.out
              rw [insJ, if_neg (fun h' => hk (by have := h'.2; rw [h1, h2] at this; exact this))] at h
              exact h, H.out.2.1⟩
            clear H
            go_wp2_with fail
            go_region_held3 (fun w' => (w'.cell? ⟨blk, j * 4, none⟩ = some (.string x0) ∧ w'.cell? ⟨blk, j * 4 + 1, none⟩ = some (.int .i64 x1) ∧ w'.cell? ⟨blk, j * 4 + 2, none⟩ = some (.int .i64 x2) ∧ w'.cell? ⟨blk, j * 4 + 3, none⟩ = some (.string x3) ∧ w'.cell? ⟨blk, l * 4, none⟩ = some (.string y0) ∧ w'.cell? ⟨blk, l * 4 + 1, none⟩ = some (.int .i64 y1) ∧ w'.cell? ⟨blk, l * 4 + 2, none⟩ = some (.int .i64 y2) ∧ w'.cell? ⟨blk, l * 4 + 3, none⟩ = some (.string y3)) ∧ SWK encA 4 w0 blk 0 dk w')
              (exact ⟨by first | (with_reducible assumption) | (simp [*]; done), by first | (with_reducible assumption) | exact s0.drew⟩)
              (first | (go_at_call 41; refine (cK _ ?_).mono ?_; (· first | assumption | (apply And.right; assumption)); rintro r w3 ⟨rfl, s3⟩; have mm := HX.out _ s3))
            have S6 : Hid (SWK encA 4 w0 blk 0 dk w3) := s3
            clear s3 mm
            go_wp2
            go_roundw
            case rel => exact ⟨i + 1, dk, by omega, by omega, by go_num, S6.out, HF.out.2, HF.out.1⟩
            case measure => simp [RowKit.intOf]; omega
        · have hgtI : ¬ (a : Int) < (j : Int) := by omega
          have hgtB : decide ((a : Int) < (j : Int)) = false := decide_eq_false hgtI
          have HF : Hid (SWK encA 4 w0 blk 0 dk wr ∧ dk.size = Z ∧ insR a (b - (i + 1)) (i + 1) dk = RT) := ⟨H.out.1, H.out.2.1, by
            have h := H.out.2.2
            have e : insJ a j dk = dk := by
              cases j with
              | zero => rfl
              | succ j => rw [insJ, if_neg (fun h' => hgt h'.1)]
            rw [e] at h; exact h⟩
          clear H
          go_wp2_with fail
          go_quiet (fail)
          go_wp2
          go_roundw
          case rel => exact ⟨i + 1, dk, by omega, by omega, by go_num, HF.out.1.drewN _, HF.out.2.1, HF.out.2.2⟩
          case measure => simp [RowKit.intOf]; omega
    · have hltI : ¬ (i : Int) < (b : Int) := by omega
      have HF : Hid (SWK encA 4 w0 blk 0 RT wr) := by
        have h := H.out.2.2
        rw [show b - i = 0 by omega, insR] at h
        rw [← h]; exact H.out.1
      clear H
      go_wp2
      go_end0
      exact ⟨rfl, HF.out⟩
end Go.Proofs.YtigmhbgdnmkooaaDoor

/- slices.symMergeCmpFunc at pairs, by their keys: one pair behind a sorted run. -/
namespace Go.Proofs.YtigmhbgdnmkooaaDoor
open Go Go.RowKit Go.Lib Go.Sort
set_option linter.unusedVariables false

set_option maxHeartbeats 4000000 in
set_option maxRecDepth 1000000 in
theorem sym_two (hK : ByK) (blk cap a m b : Nat) (d0 d : Array A2) (w0 w : World) (R : RowK encA 4 w0 blk 0 d0) (hs : d0.size = d.size) (S : SWK encA 4 w0 blk 0 d w) (hm : b = m + 1) (ham : a ≤ m) (hn : m ≠ a + 1) (hb : b ≤ d.size) (hsz : d.size < 4611686018427387904) (sB : Srt (sg d a m)) :
    Calls Tryd.prog 78 #[.slice (some ⟨blk, 0, none⟩) d.size cap, .int .i64 a, .int .i64 m, .int .i64 b, .func (.func 41) #[] #[]] w fun e w' => e = .returned (.tuple #[]) ∧ ∃ d', Mg a b d d' ∧ SWK encA 4 w0 blk 0 d' w' := by
  have S0 : Hid (SWK encA 4 w0 blk 0 d w) := S
  have HR : Hid (RowK encA 4 w0 blk 0 d0) := R
  have HB : Hid (Srt (sg d a m) ∧ b = m + 1 ∧ m < d.size) := ⟨sB, hm, by omega⟩
  have HK : Hid ByK := hK
  obtain ⟨Z, hZ⟩ : ∃ Z, d.size = Z := ⟨_, rfl⟩
  have HZ : Hid (d.size = Z ∧ d0.size = Z) := ⟨hZ, by omega⟩
  rw [hZ] at hb hsz ⊢
  have e0 : ((m : Int) - (a : Int) == 1) = false := by simp; omega
  have ew0 : IntKind.i64.wrap ((m : Int) - (a : Int)) = (m : Int) - (a : Int) := by rw [IntKind.wrap_i64]; omega
  have em : (b : Int) - (m : Int) = 1 := by omega
  have haz : m < Z := by omega
  have bA : (m : Int) < (Z : Int) := by omega
  have bA0 : (0 : Int) ≤ (m : Int) := by omega
  obtain ⟨⟨x0, x1, x2, x3⟩, hX⟩ : ∃ q, d[m]! = q := ⟨_, rfl⟩
  have HQ : Hid (d[m]! = (x0, x1, x2, x3)) := hX
  clear S R hs hZ sB hK hX hm hn
  have eg := enters_of Tryd.func41 (by kernel_rfl) rfl
  go_enter Tryd.func78, Tryd.ntmps78
  go_wp2
  clear e0 ew0
  go_loopw [14, 15, 16] (fun s t u wr => ∃ (i j : Nat), a ≤ i ∧ i ≤ j ∧ j ≤ m ∧ s = .int .i64 i ∧ t = .int .i64 j ∧ Hid (SWK encA 4 w0 blk 0 d wr ∧ (∀ k, a ≤ k → k < i → ¬ kc x0 d[k]!.1 < 0) ∧ ∀ k, j ≤ k → k < m → kc x0 d[k]!.1 < 0)) (fun s t _ _ => (RowKit.intOf t).toNat - (RowKit.intOf s).toNat)
  case atStart => exact ⟨a, m, Nat.le_refl _, ham, Nat.le_refl _, rfl, rfl, S0.out, fun k h h' => by omega, fun k h h' => by omega⟩
  case round =>
    clear S0
    obtain ⟨i, j, hmi, hij, hjb, rfl, rfl, H⟩ := hrel
    by_cases hlt : i < j
    · have hltI : (i : Int) < (j : Int) := by omega
      obtain ⟨h, hh⟩ : ∃ h, (i + j) / 2 = h := ⟨_, rfl⟩
      have he : ((i : Int) + (j : Int)) / 2 = (h : Int) := by omega
      have hih : i ≤ h := by omega
      have hhj : h < j := by omega
      have hhI : (h : Int) < (Z : Int) := by omega
      have hhO : (0 : Int) ≤ (h : Int) := by omega
      obtain ⟨⟨y0, y1, y2, y3⟩, hY⟩ : ∃ q, d[h]! = q := ⟨_, rfl⟩
      have HX : Hid (∀ w', SWK encA 4 w0 blk 0 d w' → (w'.cell? ⟨blk, m * 4, none⟩ = some (.string x0) ∧ w'.cell? ⟨blk, m * 4 + 1, none⟩ = some (.int .i64 x1) ∧ w'.cell? ⟨blk, m * 4 + 2, none⟩ = some (.int .i64 x2) ∧ w'.cell? ⟨blk, m * 4 + 3, none⟩ = some (.string x3) ∧ w'.cell? ⟨blk, h * 4, none⟩ = some (.string y0) ∧ w'.cell? ⟨blk, h * 4 + 1, none⟩ = some (.int .i64 y1) ∧ w'.cell? ⟨blk, h * 4 + 2, none⟩ = some (.int .i64 y2) ∧ w'.cell? ⟨blk, h * 4 + 3, none⟩ = some (.string y3))) := fun w' hw => by
        have h1 := (swk_at hw HR.out (by rw [HZ.out.1, HZ.out.2]) m (by rw [HZ.out.1]; omega) HQ.out).1
        have h2 := (swk_at hw HR.out (by rw [HZ.out.1, HZ.out.2]) h (by rw [HZ.out.1]; omega) hY).1
        exact ⟨h1.1, h1.2.1, h1.2.2.1, h1.2.2.2, h2.1, h2.2.1, h2.2.2.1, h2.2.2.2⟩
      have cK : ∀ W, SWK encA 4 w0 blk 0 d W → Calls Tryd.prog 41 #[atV (x0, x1, x2, x3), atV (y0, y1, y2, y3)] W fun e w' => e = .returned (.int .i64 (kc x0 y0)) ∧ SWK encA 4 w0 blk 0 d w' := fun W hW => HK.out (x0, x1, x2, x3) (y0, y1, y2, y3) w0 blk d W hW
      have s0 := H.out.1
      obtain ⟨c0, c1, c2, c3, e0, e1, e2, e3⟩ := HX.out _ s0
      have mo := down_mono (h := h) (q := m) HB.out.1 (by omega) (by omega)
      rw [hY, HQ.out] at mo
      have HM : Hid _ := mo
      clear hY mo
      by_cases hk : kc x0 y0 < 0
      · have HF : Hid ((∀ k, a ≤ k → k < i → ¬ kc x0 d[k]!.1 < 0) ∧ ∀ k, h ≤ k → k < m → kc x0 d[k]!.1 < 0) := ⟨H.out.2.1, fun k k1 k2 => HM.out.2 hk k k1 k2⟩
        clear H HM
        go_wp2_with fail
        go_region_held3 (fun w' => (w'.cell? ⟨blk, m * 4, none⟩ = some (.string x0) ∧ w'.cell? ⟨blk, m * 4 + 1, none⟩ = some (.int .i64 x1) ∧ w'.cell? ⟨blk, m * 4 + 2, none⟩ = some (.int .i64 x2) ∧ w'.cell? ⟨blk, m * 4 + 3, none⟩ = some (.string x3) ∧ w'.cell? ⟨blk, h * 4, none⟩ = some (.string y0) ∧ w'.cell? ⟨blk, h * 4 + 1, none⟩ = some (.int .i64 y1) ∧ w'.cell? ⟨blk, h * 4 + 2, none⟩ = some (.int .i64 y2) ∧ w'.cell? ⟨blk, h * 4 + 3, none⟩ = some (.string y3)) ∧ SWK encA 4 w0 blk 0 d w')
          (exact ⟨by first | (with_reducible assumption) | (simp [*]; done), by first | (with_reducible assumption) | exact s0.drew⟩)
          (first | (go_at_call 41; refine (cK _ ?_).mono ?_; (· first | assumption | (apply And.right; assumption)); rintro r w3 ⟨rfl, s3⟩; have mm := HX.out _ s3))
        go_wp2
        go_roundw
        case rel => exact ⟨i, h, hmi, hih, by omega, rfl, rfl, s3, fun k k1 k2 => by have := HF.out.1 k k1 k2; omega, HF.out.2⟩
        case measure => simp [RowKit.intOf]; omega
      · have hkD : decide (kc x0 y0 < 0) = false := decide_eq_false hk
        have hkB : (!decide (kc x0 y0 < 0)) = true := by rw [hkD]; rfl
        have HF : Hid ((∀ k, a ≤ k → k < h + 1 → ¬ kc x0 d[k]!.1 < 0) ∧ ∀ k, j ≤ k → k < m → kc x0 d[k]!.1 < 0) := ⟨fun k k1 k2 => HM.out.1 hk k k1 (by omega), H.out.2.2⟩
        clear H HM
        go_wp2_with fail
        go_region_held3 (fun w' => (w'.cell? ⟨blk, m * 4, none⟩ = some (.string x0) ∧ w'.cell? ⟨blk, m * 4 + 1, none⟩ = some (.int .i64 x1) ∧ w'.cell? ⟨blk, m * 4 + 2, none⟩ = some (.int .i64 x2) ∧ w'.cell? ⟨blk, m * 4 + 3, none⟩ = some (.string x3) ∧ w'.cell? ⟨blk, h * 4, none⟩ = some (.string y0) ∧ w'.cell? ⟨blk, h * 4 + 1, none⟩ = some (.int .i64 y1) ∧ w'.cell? ⟨blk, h * 4 + 2, none⟩ = some (.int .i64 y2) ∧ w'.cell? ⟨blk, h * 4 + 3, none⟩ = some (.string y3)) ∧ SWK encA 4 w0 blk 0 d w')
          (exact ⟨by first | (with_reducible assumption) | (simp [*]; done), by first | (with_reducible assumption) | exact s0.drew⟩)
          (first | (go_at_call 41; refine (cK _ ?_).mono ?_; (· first | assumption | (apply And.right; assumption)); rintro r w3 ⟨rfl, s3⟩; have mm := HX.out _ s3))
        go_wp2
        go_roundw
        case rel => exact ⟨h + 1, j, by omega, by omega, hjb, by go_num, rfl, s3, fun k k1 k2 => by have := HF.out.1 k k1 k2; omega, HF.out.2⟩
        case measure => simp [RowKit.intOf]; omega
    · have hltI : ¬ (i : Int) < (j : Int) := by omega
      obtain rfl : i = j := by omega
      have HG : Hid (Mg a b d (mvD d m (m - i))) := by
        have := one_down hmi hjb HB.out.2.2 HB.out.1 (fun k k1 k2 => by rw [HQ.out]; exact H.out.2.1 k k1 k2) (fun k k1 k2 => by rw [HQ.out]; exact H.out.2.2 k k1 k2)
        rwa [← HB.out.2.1] at this
      have HS : Hid (SWK encA 4 w0 blk 0 d wr) := H.out.1
      clear H em
      go_wp2_with fail
      go_loopw [17] (fun t wr => ∃ (l k : Nat), k + l = m ∧ i ≤ l ∧ t = .int .i64 (l : Int) ∧ Hid (SWK encA 4 w0 blk 0 (mvD d m k) wr)) (fun t _ => (RowKit.intOf t).toNat)
      case atStart => exact ⟨m, 0, by omega, hjb, rfl, HS.out⟩
      case round =>
        clear HS
        obtain ⟨l, k, hl, hk, rfl, H⟩ := hrel
        by_cases hlt2 : i < l
        · obtain ⟨u, hu⟩ : ∃ u, l = u + 1 := ⟨l - 1, by omega⟩
          have hltI2 : (i : Int) < (l : Int) := by omega
          have ew : IntKind.i64.wrap ((l : Int) - 1) = (l : Int) - 1 := by rw [IntKind.wrap_i64]; omega
          have en : ((l : Int) - 1).toNat = u := by omega
          have bl : (l : Int) < (Z : Int) := by omega
          have bu : (l : Int) - 1 < (Z : Int) := by omega
          have b2 : (1 : Int) ≤ (l : Int) := by omega
          have b1 : (0 : Int) ≤ (l : Int) - 1 := by omega
          have b0 : (0 : Int) ≤ (l : Int) := by omega
          clear HQ bA bA0
          obtain ⟨dk, hdk⟩ : ∃ dk, mvD d m k = dk := ⟨_, rfl⟩
          have hz : dk.size = Z := by rw [← hdk, mvD_size]; exact HZ.out.1
          have HD : Hid (mvD d m (k + 1) = swp dk l u ∧ dk.size = Z) := ⟨by rw [mvD, hdk, show m - k = l by omega, show l - 1 = u by omega], hz⟩
          have S6 : Hid (SWK encA 4 w0 blk 0 dk wr) := by have := H.out; rwa [hdk] at this
          clear H hdk
          obtain ⟨⟨p0, p1, p2, p3⟩, hX⟩ : ∃ q, dk[l]! = q := ⟨_, rfl⟩
          obtain ⟨⟨q0, q1, q2, q3⟩, hY⟩ : ∃ q, dk[u]! = q := ⟨_, rfl⟩
          have HC6 := swk_at S6.out HR.out (by rw [hz, HZ.out.2]) l (by omega) hX
          have HD6 := swk_at S6.out HR.out (by rw [hz, HZ.out.2]) u (by omega) hY
          have HXY : Hid (dk[l]! = (p0, p1, p2, p3) ∧ dk[u]! = (q0, q1, q2, q3)) := ⟨hX, hY⟩
          obtain ⟨⟨c0, c1, c2, c3⟩, f0, f1, f2, f3⟩ := HC6
          obtain ⟨⟨e0, e1, e2, e3⟩, g0, g1, g2, g3⟩ := HD6
          have n00 : ¬ l * 4 = u * 4 := by omega
          have m00 : ¬ u * 4 = l * 4 := by omega
          have n01 : ¬ l * 4 = u * 4 + 1 := by omega
          have m01 : ¬ u * 4 + 1 = l * 4 := by omega
          have n02 : ¬ l * 4 = u * 4 + 2 := by omega
          have m02 : ¬ u * 4 + 2 = l * 4 := by omega
          have n03 : ¬ l * 4 = u * 4 + 3 := by omega
          have m03 : ¬ u * 4 + 3 = l * 4 := by omega
          have n10 : ¬ l * 4 + 1 = u * 4 := by omega
          have m10 : ¬ u * 4 = l * 4 + 1 := by omega
          have n11 : ¬ l * 4 + 1 = u * 4 + 1 := by omega
          have m11 : ¬ u * 4 + 1 = l * 4 + 1 := by omega
          have n12 : ¬ l * 4 + 1 = u * 4 + 2 := by omega
          have m12 : ¬ u * 4 + 2 = l * 4 + 1 := by omega
          have n13 : ¬ l * 4 + 1 = u * 4 + 3 := by omega
          have m13 : ¬ u * 4 + 3 = l * 4 + 1 := by omega
          have n20 : ¬ l * 4 + 2 = u * 4 := by omega
          have m20 : ¬ u * 4 = l * 4 + 2 := by omega
          have n21 : ¬ l * 4 + 2 = u * 4 + 1 := by omega
          have m21 : ¬ u * 4 + 1 = l * 4 + 2 := by omega
          have n22 : ¬ l * 4 + 2 = u * 4 + 2 := by omega
          have m22 : ¬ u * 4 + 2 = l * 4 + 2 := by omega
          have n23 : ¬ l * 4 + 2 = u * 4 + 3 := by omega
          have m23 : ¬ u * 4 + 3 = l * 4 + 2 := by omega
          have n30 : ¬ l * 4 + 3 = u * 4 := by omega
          have m30 : ¬ u * 4 = l * 4 + 3 := by omega
          have n31 : ¬ l * 4 + 3 = u * 4 + 1 := by omega
          have m31 : ¬ u * 4 + 1 = l * 4 + 3 := by omega
          have n32 : ¬ l * 4 + 3 = u * 4 + 2 := by omega
          have m32 : ¬ u * 4 + 2 = l * 4 + 3 := by omega
          have n33 : ¬ l * 4 + 3 = u * 4 + 3 := by omega
          have m33 : ¬ u * 4 + 3 = l * 4 + 3 := by omega
          have HU : Hid (l = u + 1) := hu
          clear hX hY hz hu
          go_wp2_with fail
          have S3 : Hid (SWK encA 4 w0 blk 0 (swp dk l u) (((((((((wr.setCell ⟨blk, l * 4, none⟩ (.string q0)).setCell ⟨blk, l * 4 + 1, none⟩ (.int .i64 q1)).setCell ⟨blk, l * 4 + 2, none⟩ (.int .i64 q2)).setCell ⟨blk, l * 4 + 3, none⟩ (.string q3)).setCell ⟨blk, u * 4, none⟩ (.string p0)).setCell ⟨blk, u * 4 + 1, none⟩ (.int .i64 p1)).setCell ⟨blk, u * 4 + 2, none⟩ (.int .i64 p2)).setCell ⟨blk, u * 4 + 3, none⟩ (.string p3)).drew)) := by
            have h := S6.out.swapped HR.out l u (by rw [HD.out.2]; omega) (by rw [HD.out.2]; omega)
            rw [HXY.out.1, HXY.out.2, Nat.zero_add, Nat.zero_add, setCells4, setCells4] at h
            simp only [setCell_drew]
            exact h
          go_big_region
          generalize ((((((((wr.setCell ⟨blk, l * 4, none⟩ (.string q0)).setCell ⟨blk, l * 4 + 1, none⟩ (.int .i64 q1)).setCell ⟨blk, l * 4 + 2, none⟩ (.int .i64 q2)).setCell ⟨blk, l * 4 + 3, none⟩ (.string q3)).setCell ⟨blk, u * 4, none⟩ (.string p0)).setCell ⟨blk, u * 4 + 1, none⟩ (.int .i64 p1)).setCell ⟨blk, u * 4 + 2, none⟩ (.int .i64 p2)).setCell ⟨blk, u * 4 + 3, none⟩ (.string p3)).drew = w5 at S3 ⊢
          go_wp2
          go_roundw
          case rel => exact ⟨u, k + 1, by have := HU.out; omega, by have := HU.out; omega, by rw [show ((u : Nat) : Int) = (l : Int) - 1 by have := HU.out; omega], by rw [HD.out.1]; exact S3.out⟩
          case measure => simp [RowKit.intOf]; omega
        · have hltI2 : ¬ (i : Int) < (l : Int) := by omega
          have HE : Hid (k = m - i) := by show _ = _; omega
          have HS : Hid (SWK encA 4 w0 blk 0 (mvD d m (m - i)) wr) := by have := H.out; rwa [HE.out] at this
          clear H
          go_wp2
          refine bodyPost_ret (results_none rfl _ _ _) rfl ?_
          exact ⟨rfl, _, HG.out, HS.out⟩
end Go.Proofs.YtigmhbgdnmkooaaDoor

/- A symmetric merge's general step, purely: the four runs after rotating, and the whole from the two halves. -/
namespace Go.Proofs.YtigmhbgdnmkooaaDoor
open Go Go.RowKit Go.Lib Go.Sort
set_option linter.unusedVariables false

theorem srt_left {a m b : Nat} {d : Array A2} (h : Srt (sg d a b)) (h1 : a ≤ m) (h2 : m ≤ b) : Srt (sg d a m) ∧ Srt (sg d m b) := by
  rw [sg_append d h1 h2] at h
  exact ⟨(srt_append.1 h).1, (srt_append.1 h).2.1⟩
/-- After rotating: each half is two sorted runs (one of them may be empty). -/
theorem sym_runs {a s m e b c : Nat} {d r : Array A2} (h1 : a ≤ s) (h2 : s ≤ m) (h3 : m ≤ e) (h4 : e ≤ b) (hc : c = s + (e - m)) (sA : Srt (sg d a m)) (sB : Srt (sg d m b))
    (R : r.size = d.size ∧ (∀ k, k < s ∨ e ≤ k → r[k]! = d[k]!) ∧ sg r s c = sg d m e ∧ sg r c e = sg d s m) : Srt (sg r a s) ∧ Srt (sg r s c) ∧ Srt (sg r c e) ∧ Srt (sg r e b) := by
  obtain ⟨r0, r1, r2, r3⟩ := R
  have a1 := srt_left sA h1 h2
  have b1 := srt_left sB h3 h4
  exact ⟨by rw [sg_same fun k _ hk => r1 k (Or.inl hk)]; exact a1.1, by rw [r2]; exact b1.1, by rw [r3]; exact a1.2, by rw [sg_same fun k hk _ => r1 k (Or.inr hk)]; exact b1.2⟩
/-- A half with an empty run stands as it is. -/
theorem sym_idle {a s c : Nat} {d : Array A2} (h1 : a ≤ s) (h2 : s ≤ c) (s1 : Srt (sg d a s)) (s2 : Srt (sg d s c)) (h : ¬ (a < s ∧ s < c)) : Mg a c d d := by
  refine Mg.refl ?_
  rcases Nat.eq_or_lt_of_le h1 with rfl | h'
  · exact s2
  · obtain rfl : s = c := by omega
    exact s1
/-- With an empty run nothing is rotated. -/
theorem rot_idle {m s e : Nat} {d : Array A2} (h1 : s ≤ m) (h2 : m ≤ e) (h : ¬ (s < m ∧ m < e)) : rotL m (m - s) (e - m) d = d := by
  rw [rotL, if_pos (by omega)]
/-- All of it: what is found, rotated, and both halves. -/
theorem sym_all {a m b n s lo r mid : Nat} {d d1 d2 : Array A2} (hb : b ≤ d.size) (sA : Srt (sg d a m)) (sB : Srt (sg d m b)) (hn : n = mid + m) (hlo : a ≤ lo) (hls : lo ≤ s) (hsr : s ≤ r) (hrm : r ≤ m) (hrd : r ≤ mid) (hnb : n ≤ b + lo) (elo : lo = a ∨ n = b + lo) (er : r = m ∨ r = mid)
    (f1 : lo < s → ¬ kc d[n - s]!.1 d[s - 1]!.1 < 0) (f2 : s < r → kc d[n - 1 - s]!.1 d[s]!.1 < 0) (M1 : Mg a mid (rotL m (m - s) (n - s - m) d) d1) (M2 : Mg mid b d1 d2) : Mg a b d d2 := by
  obtain ⟨o1, o2⟩ := sym_found sA sB hlo hls hsr hrm (by omega) hnb elo (by omega) f1 f2
  exact sym_step (s := s) (e := n - s) (c := mid) (by omega) (by omega) (by omega) (by omega) (by omega) sA sB o1 o2 (by
    have := rot_sg (d := d) (s := s) (m := m) (e := n - s) (by omega) (by omega) (by omega)
    rwa [show s + (n - s - m) = mid by omega] at this) M1 M2
end Go.Proofs.YtigmhbgdnmkooaaDoor

/- slices.symMergeCmpFunc at pairs, by their keys, whole. -/
namespace Go.Proofs.YtigmhbgdnmkooaaDoor
open Go Go.RowKit Go.Lib Go.Sort
set_option linter.unusedVariables false

/-- What symMergeCmpFunc is to do, for all ranges of at most n. -/
def SymTo (n Z blk cap : Nat) (w0 : World) : Prop := ∀ (a m b : Nat) (dk : Array A2) (W : World), b - a ≤ n → a < m → m < b → b ≤ Z → dk.size = Z → SWK encA 4 w0 blk 0 dk W → Srt (sg dk a m) → Srt (sg dk m b) →
  Calls Tryd.prog 78 #[.slice (some ⟨blk, 0, none⟩) Z cap, .int .i64 a, .int .i64 m, .int .i64 b, .func (.func 41) #[] #[]] W fun e w' => e = .returned (.tuple #[]) ∧ ∃ d', Mg a b dk d' ∧ SWK encA 4 w0 blk 0 d' w'

set_option maxHeartbeats 16000000 in
set_option maxRecDepth 1000000 in
theorem sym_step_any (hK : ByK) (n Z blk cap : Nat) (d0 : Array A2) (w0 : World) (R : RowK encA 4 w0 blk 0 d0) (hs : d0.size = Z) (hsz : Z < 4611686018427387904) (ih : SymTo n Z blk cap w0) : SymTo (n + 1) Z blk cap w0 := by
  intro a m b d w hn ham hmb hb hz S sA sB
  by_cases h1 : m = a + 1
  · have := sym_one hK blk cap a m b d0 d w0 w R (by omega) S h1 (by omega) (by omega) (by omega) sB
    rwa [hz] at this
  by_cases h2 : b = m + 1
  · have := sym_two hK blk cap a m b d0 d w0 w R (by omega) S h2 (by omega) h1 (by omega) (by omega) sA
    rwa [hz] at this
  have e0 : ((m : Int) - (a : Int) == 1) = false := by simp; omega
  have ew0 : IntKind.i64.wrap ((m : Int) - (a : Int)) = (m : Int) - (a : Int) := by rw [IntKind.wrap_i64]; omega
  have e1 : ((b : Int) - (m : Int) == 1) = false := by simp; omega
  have ew1 : IntKind.i64.wrap ((b : Int) - (m : Int)) = (b : Int) - (m : Int) := by rw [IntKind.wrap_i64]; omega
  obtain ⟨mid, hmid⟩ : ∃ mid, (a + b) / 2 = mid := ⟨_, rfl⟩
  have emid : ((a : Int) + (b : Int)) / 2 = (mid : Int) := by omega
  obtain ⟨nn, hnn⟩ : ∃ nn, mid + m = nn := ⟨_, rfl⟩
  have enn : (mid : Int) + (m : Int) = (nn : Int) := by omega
  obtain ⟨p, hp⟩ : ∃ p, nn = p + 1 := ⟨nn - 1, by omega⟩
  have ep : (nn : Int) - 1 = (p : Int) := by omega
  have IH : Hid (SymTo n Z blk cap w0) := ih
  have HK : Hid ByK := hK
  have HR : Hid (RowK encA 4 w0 blk 0 d0 ∧ d0.size = Z) := ⟨R, hs⟩
  have S0 : Hid (SWK encA 4 w0 blk 0 d w) := S
  have HA : Hid (Srt (sg d a m) ∧ Srt (sg d m b) ∧ d.size = Z ∧ (a + b) / 2 = mid ∧ mid + m = nn ∧ nn = p + 1 ∧ b - a ≤ n + 1) := ⟨sA, sB, hz, hmid, hnn, hp, hn⟩
  have eg := enters_of Tryd.func41 (by kernel_rfl) rfl
  have am1 : a < mid := by omega
  have am2 : mid < b := by omega
  have bmid : mid < Z := by omega
  have bnn : nn < 9223372036854775807 := by omega
  clear R hs hz S sA sB ih hK hn hp hnn hmid h1 h2
  obtain ⟨lo, r, HL, hlr⟩ : ∃ lo r, Hid (a ≤ lo ∧ lo ≤ r ∧ r ≤ m ∧ r ≤ mid ∧ nn ≤ b + lo ∧ (lo = a ∨ nn = b + lo) ∧ (r = m ∨ r = mid)) ∧ ((mid < m ∧ lo = nn - b ∧ r = mid) ∨ (¬ mid < m ∧ lo = a ∧ r = m)) := by
    have := HA.out
    by_cases hgt : mid < m
    · exact ⟨nn - b, mid, by show _ ∧ _; omega, Or.inl ⟨hgt, rfl, rfl⟩⟩
    · exact ⟨a, m, by show _ ∧ _; omega, Or.inr ⟨hgt, rfl, rfl⟩⟩
  go_enter Tryd.func78, Tryd.ntmps78
  go_upto_if 140 with fail
  go_cut [20, 21] (fun x y wc => x = .int .i64 lo ∧ y = .int .i64 r ∧ wc = w)
  case first =>
    rcases hlr with ⟨hgt, e1', e2'⟩ | ⟨hgt, e1', e2'⟩
    · have hgI : (mid : Int) < (m : Int) := by omega
      have elo : (nn : Int) - (b : Int) = (lo : Int) := by have := HA.out; have := HL.out; omega
      have ewl : IntKind.i64.wrap ((nn : Int) - (b : Int)) = (nn : Int) - (b : Int) := by rw [IntKind.wrap_i64]; omega
      subst e2'
      go_wp2
      go_meet
      exact ⟨by rw [e1'], rfl, rfl⟩
    · have hgI : ¬ (mid : Int) < (m : Int) := by omega
      have hgB : decide ((mid : Int) < (m : Int)) = false := decide_eq_false hgI
      subst e1' e2'
      go_wp2
      go_meet
      exact ⟨rfl, rfl, rfl⟩
  case rest =>
    obtain ⟨rfl, rfl, rfl⟩ := hcut
    clear hlr
    go_wp2
    go_loopw [20, 21, 23] (fun x y z wr => ∃ (s t : Nat), lo ≤ s ∧ s ≤ t ∧ t ≤ r ∧ x = .int .i64 s ∧ y = .int .i64 t ∧ Hid (SWK encA 4 w0 blk 0 d wr ∧ (lo < s → ¬ kc d[nn - s]!.1 d[s - 1]!.1 < 0) ∧ (t < r → kc d[nn - 1 - t]!.1 d[t]!.1 < 0))) (fun x y _ _ => (RowKit.intOf y).toNat - (RowKit.intOf x).toNat)
    case atStart => exact ⟨lo, r, Nat.le_refl _, HL.out.2.1, Nat.le_refl _, by first | rfl | rw [elo], rfl, S0.out, fun h => by omega, fun h => by omega⟩
    case round =>
      clear S0 e0 ew0 e1 ew1 emid enn ep
      obtain ⟨s, t, hls, hst, htr, rfl, rfl, H⟩ := hrel
      have bsm : r ≤ m ∧ a ≤ lo := ⟨HL.out.2.2.1, HL.out.1⟩
      by_cases hlt : s < t
      · have hltI : (s : Int) < (t : Int) := by omega
        obtain ⟨h, hh⟩ : ∃ h, (s + t) / 2 = h := ⟨_, rfl⟩
        have he : ((s : Int) + (t : Int)) / 2 = (h : Int) := by omega
        have hih : s ≤ h := by omega
        have hhj : h < t := by omega
        have hhI : (h : Int) < (Z : Int) := by omega
        have hhO : (0 : Int) ≤ (h : Int) := by omega
        obtain ⟨g, hg⟩ : ∃ g, p - h = g := ⟨_, rfl⟩
        have HG : Hid (nn - 1 - h = g ∧ nn - (h + 1) = g ∧ g < Z ∧ h < Z) := by have := HA.out; have := HL.out; show _ ∧ _; omega
        have eg1 : (p : Int) - (h : Int) = (g : Int) := by have := HA.out; have := HL.out; omega
        have ew2 : IntKind.i64.wrap ((p : Int) - (h : Int)) = (p : Int) - (h : Int) := by have := HA.out; rw [IntKind.wrap_i64]; omega
        have eg2 : (nn : Int) - 1 - (h : Int) = (g : Int) := by have := HA.out; have := HL.out; omega
        have ew3 : IntKind.i64.wrap ((nn : Int) - 1 - (h : Int)) = (nn : Int) - 1 - (h : Int) := by have := HA.out; rw [IntKind.wrap_i64]; omega
        have hhp : (h : Int) ≤ (p : Int) := by omega
        have hhpn : h ≤ p := by omega
        have hpz : (p : Int) - (h : Int) < (Z : Int) := by have := HG.out; omega
        have en2 : ((p : Int) - (h : Int)).toNat = g := by omega
        have hgI2 : (g : Int) < (Z : Int) := by have := HG.out; omega
        have hgO : (0 : Int) ≤ (g : Int) := by omega
        obtain ⟨⟨x0, x1, x2, x3⟩, hX⟩ : ∃ q, d[g]! = q := ⟨_, rfl⟩
        obtain ⟨⟨y0, y1, y2, y3⟩, hY⟩ : ∃ q, d[h]! = q := ⟨_, rfl⟩
        have HX : Hid (∀ w', SWK encA 4 w0 blk 0 d w' → (w'.cell? ⟨blk, g * 4, none⟩ = some (.string x0) ∧ w'.cell? ⟨blk, g * 4 + 1, none⟩ = some (.int .i64 x1) ∧ w'.cell? ⟨blk, g * 4 + 2, none⟩ = some (.int .i64 x2) ∧ w'.cell? ⟨blk, g * 4 + 3, none⟩ = some (.string x3) ∧ w'.cell? ⟨blk, h * 4, none⟩ = some (.string y0) ∧ w'.cell? ⟨blk, h * 4 + 1, none⟩ = some (.int .i64 y1) ∧ w'.cell? ⟨blk, h * 4 + 2, none⟩ = some (.int .i64 y2) ∧ w'.cell? ⟨blk, h * 4 + 3, none⟩ = some (.string y3))) := fun w' hw => by
          have h1 := (swk_at hw HR.out.1 (by rw [HR.out.2, HA.out.2.2.1]) g (by rw [HA.out.2.2.1]; exact HG.out.2.2.1) hX).1
          have h2 := (swk_at hw HR.out.1 (by rw [HR.out.2, HA.out.2.2.1]) h (by rw [HA.out.2.2.1]; exact HG.out.2.2.2) hY).1
          exact ⟨h1.1, h1.2.1, h1.2.2.1, h1.2.2.2, h2.1, h2.2.1, h2.2.2.1, h2.2.2.2⟩
        have cK : ∀ W, SWK encA 4 w0 blk 0 d W → Calls Tryd.prog 41 #[atV (x0, x1, x2, x3), atV (y0, y1, y2, y3)] W fun e w' => e = .returned (.int .i64 (kc x0 y0)) ∧ SWK encA 4 w0 blk 0 d w' := fun W hW => HK.out (x0, x1, x2, x3) (y0, y1, y2, y3) w0 blk d W hW
        have s0 := H.out.1
        obtain ⟨c0, c1, c2, c3, e0, e1, e2, e3⟩ := HX.out _ s0
        have HXY : Hid (d[g]! = (x0, x1, x2, x3) ∧ d[h]! = (y0, y1, y2, y3)) := ⟨hX, hY⟩
        have hZb : h < 4611686018427387904 := by omega
        have hph0 : (0 : Int) ≤ (p : Int) - (h : Int) := by omega
        clear eg1 eg2 ew3 hgI2 hgO
        clear hX hY
        by_cases hk : kc x0 y0 < 0
        · as_aux_lemma =>
            have HF : Hid ((lo < s → ¬ kc d[nn - s]!.1 d[s - 1]!.1 < 0) ∧ (h < r → kc d[nn - 1 - h]!.1 d[h]!.1 < 0)) := ⟨H.out.2.1, fun _ => by rw [HG.out.1, HXY.out.1, HXY.out.2]; exact hk⟩
            clear H
            go_wp2_with fail
            go_region_held3 (fun w' => (w'.cell? ⟨blk, g * 4, none⟩ = some (.string x0) ∧ w'.cell? ⟨blk, g * 4 + 1, none⟩ = some (.int .i64 x1) ∧ w'.cell? ⟨blk, g * 4 + 2, none⟩ = some (.int .i64 x2) ∧ w'.cell? ⟨blk, g * 4 + 3, none⟩ = some (.string x3) ∧ w'.cell? ⟨blk, h * 4, none⟩ = some (.string y0) ∧ w'.cell? ⟨blk, h * 4 + 1, none⟩ = some (.int .i64 y1) ∧ w'.cell? ⟨blk, h * 4 + 2, none⟩ = some (.int .i64 y2) ∧ w'.cell? ⟨blk, h * 4 + 3, none⟩ = some (.string y3)) ∧ SWK encA 4 w0 blk 0 d w')
              (exact ⟨by first | (with_reducible assumption) | (simp [*]; done), by first | (with_reducible assumption) | exact s0.drew⟩)
              (first | (go_at_call 41; refine (cK _ ?_).mono ?_; (· first | assumption | (apply And.right; assumption)); rintro r1 w3 ⟨rfl, s3⟩; have mm := HX.out _ s3))
            have S3 : Hid _ := s3
            clear s3 mm
            go_wp2
            go_roundw
            case rel => exact ⟨s, h, hls, hih, by omega, rfl, rfl, S3.out, (fun h => Int.not_lt.2 (HF.out.1 h)), HF.out.2⟩
            case measure => simp [RowKit.intOf]; omega
        · as_aux_lemma =>
            have hkD : decide (kc x0 y0 < 0) = false := decide_eq_false hk
            have hkB : (!decide (kc x0 y0 < 0)) = true := by rw [hkD]; rfl
            have HF : Hid ((lo < h + 1 → ¬ kc d[nn - (h + 1)]!.1 d[h + 1 - 1]!.1 < 0) ∧ (t < r → kc d[nn - 1 - t]!.1 d[t]!.1 < 0)) := ⟨fun _ => by rw [HG.out.2.1, Nat.add_sub_cancel, HXY.out.1, HXY.out.2]; exact hk, H.out.2.2⟩
            clear H
            go_wp2_with fail
            go_region_held3 (fun w' => (w'.cell? ⟨blk, g * 4, none⟩ = some (.string x0) ∧ w'.cell? ⟨blk, g * 4 + 1, none⟩ = some (.int .i64 x1) ∧ w'.cell? ⟨blk, g * 4 + 2, none⟩ = some (.int .i64 x2) ∧ w'.cell? ⟨blk, g * 4 + 3, none⟩ = some (.string x3) ∧ w'.cell? ⟨blk, h * 4, none⟩ = some (.string y0) ∧ w'.cell? ⟨blk, h * 4 + 1, none⟩ = some (.int .i64 y1) ∧ w'.cell? ⟨blk, h * 4 + 2, none⟩ = some (.int .i64 y2) ∧ w'.cell? ⟨blk, h * 4 + 3, none⟩ = some (.string y3)) ∧ SWK encA 4 w0 blk 0 d w')
              (exact ⟨by first | (with_reducible assumption) | (simp [*]; done), by first | (with_reducible assumption) | exact s0.drew⟩)
              (first | (go_at_call 41; refine (cK _ ?_).mono ?_; (· first | assumption | (apply And.right; assumption)); rintro r1 w3 ⟨rfl, s3⟩; have mm := HX.out _ s3))
            have S3 : Hid _ := s3
            clear s3 mm
            go_wp2
            go_roundw
            case rel => exact ⟨h + 1, t, by omega, by omega, htr, by go_num, rfl, S3.out, fun g => by have := HF.out.1 g; simpa using this, HF.out.2⟩
            case measure => simp [RowKit.intOf]; omega
      · have hltI : ¬ (s : Int) < (t : Int) := by omega
        obtain rfl : s = t := by omega
        obtain ⟨en, hen⟩ : ∃ en, nn - s = en := ⟨_, rfl⟩
        have een : (nn : Int) - (s : Int) = (en : Int) := by have := HL.out; have := HA.out; omega
        have hfin := fun d1 d2 => sym_all (d := d) (d1 := d1) (d2 := d2) (a := a) (m := m) (b := b) (n := nn) (s := s) (lo := lo) (r := r) (mid := mid) (by rw [HA.out.2.2.1]; exact hb) HA.out.1 HA.out.2.1 HA.out.2.2.2.2.1.symm (by have := HL.out; omega) hls htr (by have := HL.out; omega) (by have := HL.out; omega) (by have := HL.out; have := HA.out; omega) (by have := HL.out; have := HA.out; omega) (by have := HL.out; omega) (fun h => Int.not_lt.2 (by have := H.out.2.1 h; omega)) H.out.2.2
        have q1 : a ≤ s ∧ s ≤ m ∧ m ≤ en ∧ en ≤ b ∧ mid = s + (en - m) ∧ s ≤ mid ∧ mid ≤ en := by have := HL.out; have := HA.out; omega
        have hrot := rot_sg (d := d) (s := s) (m := m) (e := en) q1.2.1 q1.2.2.1 (by have := HA.out; omega)
        have hrun := sym_runs (c := mid) q1.1 q1.2.1 q1.2.2.1 q1.2.2.2.1 q1.2.2.2.2.1 HA.out.1 HA.out.2.1 (by rw [← q1.2.2.2.2.1] at hrot; exact hrot)
        rw [hen] at hfin
        have hidle : ¬ (s < m ∧ m < en) → rotL m (m - s) (en - m) d = d := rot_idle q1.2.1 q1.2.2.1
        obtain ⟨RR, hRR⟩ : ∃ RR, rotL m (m - s) (en - m) d = RR := ⟨_, rfl⟩
        rw [hRR] at hfin hrun hrot hidle
        have HF : Hid ((∀ d1 d2, Mg a mid RR d1 → Mg mid b d1 d2 → Mg a b d d2) ∧ (Srt (sg RR a s) ∧ Srt (sg RR s mid) ∧ Srt (sg RR mid en) ∧ Srt (sg RR en b)) ∧ RR.size = Z ∧ (¬ (s < m ∧ m < en) → RR = d)) := ⟨hfin, hrun, hrot.1.trans HA.out.2.2.1, hidle⟩
        have HQ : Hid (a ≤ s ∧ s ≤ m ∧ m ≤ en ∧ en ≤ b ∧ mid = s + (en - m) ∧ s ≤ mid ∧ mid ≤ en) := q1
        have c1 : s < m → m < en → ∀ W, SWK encA 4 w0 blk 0 d W → Calls Tryd.prog 82 #[.slice (some ⟨blk, 0, none⟩) Z cap, .int .i64 s, .int .i64 m, .int .i64 en, .func (.func 41) #[] #[]] W fun e w' => e = .returned (.tuple #[]) ∧ SWK encA 4 w0 blk 0 RR w' := fun g1 g2 W hW => by
          have := rotate_any blk cap s m en d0 d w0 W (.func (.func 41) #[] #[]) HR.out.1 (by rw [HR.out.2, HA.out.2.2.1]) hW g1 g2 (by rw [HA.out.2.2.1]; have := HQ.out; omega) (by rw [HA.out.2.2.1]; exact hsz)
          rw [HA.out.2.2.1, hRR] at this; exact this
        have C1 : Hid _ := c1
        have S1 : Hid (SWK encA 4 w0 blk 0 d wr) := H.out.1
        clear H hfin hrun hrot hidle hRR q1 hen c1
        go_upto_region 39 with fail
        go_cut [185] (fun x wc => x = .bool (decide (s < m ∧ m < en)) ∧ wc = wr)
        case first =>
          as_aux_lemma =>
            by_cases p1 : s < m
            · have p1I : (s : Int) < (m : Int) := by omega
              by_cases p2 : m < en
              · have p2I : (m : Int) < (en : Int) := by omega
                go_wp2
                go_meet
                exact ⟨by rw [decide_eq_true ⟨p1, p2⟩], rfl⟩
              · have p2I : ¬ (m : Int) < (en : Int) := by omega
                have p2B : decide ((m : Int) < (en : Int)) = false := decide_eq_false p2I
                go_wp2
                go_meet
                exact ⟨by rw [decide_eq_false (fun h => p2 h.2)], rfl⟩
            · have p1I : ¬ (s : Int) < (m : Int) := by omega
              have p1B : decide ((s : Int) < (m : Int)) = false := decide_eq_false p1I
              go_wp2
              go_meet
              exact ⟨by rw [decide_eq_false (fun h => p1 h.1)], rfl⟩
        case rest =>
          obtain ⟨rfl, rfl⟩ := hcut
          go_upto_if 185 with fail
          go_cut [24] (fun x wc => x = .int .i64 en ∧ Hid (SWK encA 4 w0 blk 0 RR wc))
          case first =>
            as_aux_lemma =>
              by_cases p : s < m ∧ m < en
              · rw [decide_eq_true p]
                have c1 := C1.out p.1 p.2
                go_wp2_with fail
                refine (c1 _ (by first | exact S1.out | exact S1.out.drew)).mono ?_; rintro r5 w5 ⟨rfl, s5⟩
                have S5 : Hid _ := s5
                clear s5 c1
                go_wp2
                go_meet
                exact ⟨rfl, S5.out⟩
              · rw [decide_eq_false p]
                have S5 := S1.out
                rw [← HF.out.2.2.2 p] at S5
                have S5 : Hid _ := S5
                go_wp2
                go_meet
                exact ⟨rfl, S5.out⟩
          case rest =>
            obtain ⟨rfl, S5⟩ := hcut
            clear S1 C1
            obtain ⟨wS, rfl⟩ : ∃ W, W = wc := ⟨_, rfl⟩
            go_upto_region 41 with fail
            go_cut [199] (fun x wc => x = .bool (decide (a < s ∧ s < mid)) ∧ wc = wS)
            case first =>
              as_aux_lemma =>
                by_cases p1 : a < s
                · have p1I : (a : Int) < (s : Int) := by omega
                  by_cases p2 : s < mid
                  · have p2I : (s : Int) < (mid : Int) := by omega
                    go_wp2
                    go_meet
                    exact ⟨by rw [decide_eq_true ⟨p1, p2⟩], rfl⟩
                  · have p2I : ¬ (s : Int) < (mid : Int) := by omega
                    have p2B : decide ((s : Int) < (mid : Int)) = false := decide_eq_false p2I
                    go_wp2
                    go_meet
                    exact ⟨by rw [decide_eq_false (fun h => p2 h.2)], rfl⟩
                · have p1I : ¬ (a : Int) < (s : Int) := by omega
                  have p1B : decide ((a : Int) < (s : Int)) = false := decide_eq_false p1I
                  go_wp2
                  go_meet
                  exact ⟨by rw [decide_eq_false (fun h => p1 h.1)], rfl⟩
            case rest =>
              obtain ⟨rfl, rfl⟩ := hcut
              go_upto_if 199 with fail
              go_cut [24] (fun x wc => x = .int .i64 en ∧ ∃ d7, Hid (Mg a mid RR d7) ∧ Hid (SWK encA 4 w0 blk 0 d7 wc))
              case first =>
                as_aux_lemma =>
                  by_cases p : a < s ∧ s < mid
                  · rw [decide_eq_true p]
                    have c2 := fun W hW => IH.out a s mid RR W (by have := HA.out; omega) p.1 p.2 (by omega) HF.out.2.2.1 hW HF.out.2.1.1 HF.out.2.1.2.1
                    go_wp2_with fail
                    refine (c2 _ (by first | exact S5.out | exact S5.out.drew)).mono ?_; rintro r7 w7 ⟨rfl, d7, g7, s7⟩
                    have S7 : Hid _ := s7
                    have G7 : Hid _ := g7
                    clear s7 g7 c2
                    go_wp2
                    go_meet
                    exact ⟨rfl, d7, G7.out, S7.out⟩
                  · rw [decide_eq_false p]
                    have G7 : Hid (Mg a mid RR RR) := sym_idle (s := s) HQ.out.1 HQ.out.2.2.2.2.2.1 HF.out.2.1.1 HF.out.2.1.2.1 p
                    go_wp2
                    go_meet
                    exact ⟨rfl, RR, G7.out, S5.out⟩
              case rest =>
                obtain ⟨rfl, d7, G7, S7⟩ := hcut
                clear S5
                by_cases p5 : mid < en
                · have p5I : (mid : Int) < (en : Int) := by omega
                  by_cases p6 : en < b
                  · have p6I : (en : Int) < (b : Int) := by omega
                    have c3 := fun W hW => IH.out mid en b d7 W (by have := HA.out; omega) p5 p6 hb (G7.out.size.trans HF.out.2.2.1) hW (by rw [sg_same fun k hk _ => G7.out.rest k (Or.inr hk)]; exact HF.out.2.1.2.2.1) (by rw [sg_same fun k hk _ => G7.out.rest k (Or.inr (by omega))]; exact HF.out.2.1.2.2.2)
                    go_wp2_with fail
                    refine (c3 _ (by first | exact S7.out | exact S7.out.drew)).mono ?_; rintro r9 w9 ⟨rfl, d9, g9, s9⟩
                    have S9 : Hid _ := s9
                    have G9 : Hid _ := g9
                    clear s9 g9 c3
                    go_wp2
                    go_end0
                    exact ⟨rfl, _, HF.out.1 _ _ G7.out G9.out, S9.out⟩
                  · have p6I : ¬ (en : Int) < (b : Int) := by omega
                    have p6B : decide ((en : Int) < (b : Int)) = false := decide_eq_false p6I
                    have g9 : Mg mid b d7 d7 := sym_idle (s := en) HQ.out.2.2.2.2.2.2 HQ.out.2.2.2.1 (by rw [sg_same fun k hk _ => G7.out.rest k (Or.inr hk)]; exact HF.out.2.1.2.2.1) (by rw [sg_same fun k hk _ => G7.out.rest k (Or.inr (by have := HQ.out; omega))]; exact HF.out.2.1.2.2.2) (fun h => p6 h.2)
                    have G9 : Hid _ := g9
                    clear g9
                    go_wp2
                    go_end0
                    exact ⟨rfl, _, HF.out.1 _ _ G7.out G9.out, S7.out⟩
                · have p5I : ¬ (mid : Int) < (en : Int) := by omega
                  have p5B : decide ((mid : Int) < (en : Int)) = false := decide_eq_false p5I
                  have g9 : Mg mid b d7 d7 := sym_idle (s := en) HQ.out.2.2.2.2.2.2 HQ.out.2.2.2.1 (by rw [sg_same fun k hk _ => G7.out.rest k (Or.inr hk)]; exact HF.out.2.1.2.2.1) (by rw [sg_same fun k hk _ => G7.out.rest k (Or.inr (by have := HQ.out; omega))]; exact HF.out.2.1.2.2.2) (fun h => p5 h.1)
                  have G9 : Hid _ := g9
                  clear g9
                  go_wp2
                  go_end0
                  exact ⟨rfl, _, HF.out.1 _ _ G7.out G9.out, S7.out⟩
theorem sym_any (hK : ByK) (Z blk cap : Nat) (d0 : Array A2) (w0 : World) (R : RowK encA 4 w0 blk 0 d0) (hs : d0.size = Z) (hsz : Z < 4611686018427387904) : ∀ n, SymTo n Z blk cap w0
  | 0 => fun a m b _ _ h h1 h2 => by omega
  | n + 1 => sym_step_any hK n Z blk cap d0 w0 R hs hsz (sym_any hK Z blk cap d0 w0 R hs hsz n)
end Go.Proofs.YtigmhbgdnmkooaaDoor

/- slices.stableCmpFunc and SortStableFunc at pairs, by their keys. -/
namespace Go.Proofs.YtigmhbgdnmkooaaDoor
open Go Go.RowKit Go.Lib Go.Sort
set_option linter.unusedVariables false

set_option maxHeartbeats 4000000 in
set_option maxRecDepth 1000000 in
theorem stable_any (hK : ByK) (n blk cap : Nat) (d0 d : Array A2) (w0 w : World) (R : RowK encA 4 w0 blk 0 d0) (hs : d0.size = n) (hz : d.size = n) (S : SWK encA 4 w0 blk 0 d w) (hsz : n < 1152921504606846976) :
    Calls Tryd.prog 69 #[.slice (some ⟨blk, 0, none⟩) n cap, .int .i64 n, .func (.func 41) #[] #[]] w fun e w' => e = .returned (.tuple #[]) ∧ ∃ d', SWK encA 4 w0 blk 0 d' w' ∧ d'.size = n ∧ SL (sg d 0 n) (sg d' 0 n) ∧ Srt (sg d' 0 n) := by
  have CI : Hid (∀ (a b : Nat) (dk : Array A2) (W : World), dk.size = n → a ≤ b → b ≤ n → SWK encA 4 w0 blk 0 dk W → Calls Tryd.prog 77 #[.slice (some ⟨blk, 0, none⟩) n cap, .int .i64 a, .int .i64 b, .func (.func 41) #[] #[]] W fun e w' => e = .returned (.tuple #[]) ∧ ∃ d', Mg a b dk d' ∧ SWK encA 4 w0 blk 0 d' w') := fun a b dk W h1 h2 h3 h4 => by
    have := insertion_any blk cap a b d0 dk w0 W R (by omega) h4 h2 (by omega) (by omega)
    rw [h1] at this
    exact this.mono fun e w' ⟨e1, e2⟩ => ⟨e1, _, insR_mg h2 (by omega), e2⟩
  have CS : Hid (∀ (a m b : Nat) (dk : Array A2) (W : World), a < m → m < b → b ≤ n → dk.size = n → SWK encA 4 w0 blk 0 dk W → Srt (sg dk a m) → Srt (sg dk m b) → Calls Tryd.prog 78 #[.slice (some ⟨blk, 0, none⟩) n cap, .int .i64 a, .int .i64 m, .int .i64 b, .func (.func 41) #[] #[]] W fun e w' => e = .returned (.tuple #[]) ∧ ∃ d', Mg a b dk d' ∧ SWK encA 4 w0 blk 0 d' w') := fun a m b dk W h1 h2 h3 h4 h5 h6 h7 =>
    sym_any hK n blk cap d0 w0 R hs (by omega) (b - a) a m b dk W (Nat.le_refl _) h1 h2 h3 h4 h5 h6 h7
  have S0 : Hid (SWK encA 4 w0 blk 0 d w) := S
  have HZ : Hid (d.size = n) := hz
  clear hK R hs hz S
  go_enter Tryd.func69, Tryd.ntmps69
  go_wp2
  go_loopw [7, 8] (fun x y wr => ∃ (a : Nat) (dk : Array A2), a ≤ n ∧ x = .int .i64 a ∧ y = .int .i64 ((a : Int) + 20) ∧ Hid ((∃ T, a = 20 * T) ∧ SWK encA 4 w0 blk 0 dk wr ∧ dk.size = n ∧ SL (sg d 0 n) (sg dk 0 n) ∧ Blks 20 dk 0 a)) (fun x _ _ => n - (RowKit.intOf x).toNat)
  case atStart => exact ⟨0, d, Nat.zero_le _, rfl, rfl, ⟨0, rfl⟩, S0.out, HZ.out, SL.refl _, blk_none _ _ _⟩
  case round =>
    clear S0
    obtain ⟨a, dk, ha, rfl, rfl, H⟩ := hrel
    by_cases hlt : a + 20 ≤ n
    · have hltI : (a : Int) + 20 ≤ (n : Int) := by omega
      have c1 := CI.out a (a + 20) dk
      rw [show ((a + 20 : Nat) : Int) = (a : Int) + 20 by omega] at c1
      have c1 := fun W hW => c1 W H.out.2.2.1 (by omega) hlt hW
      go_wp2_with fail
      refine (c1 _ H.out.2.1).mono ?_; rintro r w2 ⟨rfl, d2, g2, s2⟩
      have H2 : Hid ((∃ T, a + 20 = 20 * T) ∧ SWK encA 4 w0 blk 0 d2 w2 ∧ d2.size = n ∧ SL (sg d 0 n) (sg d2 0 n) ∧ Blks 20 d2 0 (a + 20)) := by
        obtain ⟨⟨T, hT⟩, _, h3, h4, h5⟩ := H.out
        exact ⟨⟨T + 1, by omega⟩, s2, g2.size.trans h3, h4.trans (g2.whole (by omega) hlt), blk_grow hT g2 (Nat.le_refl _) h5⟩
      clear c1 H g2 s2
      go_wp2
      go_roundw
      case rel => exact ⟨a + 20, d2, hlt, by go_num, by go_num, H2.out⟩
      case measure => simp [RowKit.intOf]; omega
    · have hltI : ¬ (a : Int) + 20 ≤ (n : Int) := by omega
      have c1 := fun W hW => CI.out a n dk W H.out.2.2.1 ha (Nat.le_refl _) hW
      go_wp2_with fail
      refine (c1 _ (by first | exact H.out.2.1 | exact H.out.2.1.drew)).mono ?_; rintro r w2 ⟨rfl, d2, g2, s2⟩
      have H2 : Hid (SWK encA 4 w0 blk 0 d2 w2 ∧ d2.size = n ∧ SL (sg d 0 n) (sg d2 0 n) ∧ Blks 20 d2 0 n) := by
        obtain ⟨⟨T, hT⟩, _, h3, h4, h5⟩ := H.out
        exact ⟨s2, g2.size.trans h3, h4.trans (g2.whole ha (Nat.le_refl _)), blk_grow hT g2 (by omega) h5⟩
      clear c1 H g2 s2
      go_wp2_with fail
      go_loopw [6, 7, 8, 9] (fun x _ _ _ wr => ∃ (s : Nat) (dk : Array A2), 20 ≤ s ∧ s ≤ 2 * n + 40 ∧ x = .int .i64 s ∧ Hid (SWK encA 4 w0 blk 0 dk wr ∧ dk.size = n ∧ SL (sg d 0 n) (sg dk 0 n) ∧ Blks s dk 0 n)) (fun x _ _ _ _ => n - (RowKit.intOf x).toNat)
      case atStart => exact ⟨20, d2, Nat.le_refl _, by omega, rfl, H2.out⟩
      case round =>
        clear H2 hltI hlt ha
        obtain ⟨s, dk, hs1, hs2, rfl, H⟩ := hrel
        by_cases hlt : s < n
        · have hltI : (s : Int) < (n : Int) := by omega
          go_wp2_with fail
          go_loopw [7, 8] (fun x y wr => ∃ (a : Nat) (dk : Array A2), a ≤ n ∧ x = .int .i64 a ∧ y = .int .i64 ((a : Int) + 2 * (s : Int)) ∧ Hid ((∃ T, a = 2 * s * T) ∧ SWK encA 4 w0 blk 0 dk wr ∧ dk.size = n ∧ SL (sg d 0 n) (sg dk 0 n) ∧ Blks (2 * s) dk 0 a ∧ Blks s dk a n)) (fun x _ _ => n - (RowKit.intOf x).toNat)
          case atStart => exact ⟨0, dk, Nat.zero_le _, rfl, by go_num, ⟨0, rfl⟩, H.out.1, H.out.2.1, H.out.2.2.1, blk_none _ _ _, H.out.2.2.2⟩
          case round =>
            clear H
            obtain ⟨a, dk, ha, rfl, rfl, H⟩ := hrel
            by_cases hle : a + 2 * s ≤ n
            · have hleI : (a : Int) + 2 * (s : Int) ≤ (n : Int) := by omega
              have c1 := CS.out a (a + s) (a + 2 * s) dk
              rw [show ((a + 2 * s : Nat) : Int) = (a : Int) + 2 * (s : Int) by omega, show ((a + s : Nat) : Int) = (a : Int) + (s : Int) by omega] at c1
              have c1 := fun W hW => c1 W (by omega) (by omega) hle H.out.2.2.1 hW (blk_srt (t := 0) H.out.2.2.2.2.2 (by omega) (Nat.le_refl _) (by omega)) (blk_srt (t := 1) H.out.2.2.2.2.2 (by omega) (by omega) hle)
              go_wp2_with fail
              refine (c1 _ H.out.2.1).mono ?_; rintro r w3 ⟨rfl, d3, g3, s3⟩
              have H2 : Hid ((∃ T, a + 2 * s = 2 * s * T) ∧ SWK encA 4 w0 blk 0 d3 w3 ∧ d3.size = n ∧ SL (sg d 0 n) (sg d3 0 n) ∧ Blks (2 * s) d3 0 (a + 2 * s) ∧ Blks s d3 (a + 2 * s) n) := by
                obtain ⟨⟨T, hT⟩, _, h3, h4, h5, h6⟩ := H.out
                exact ⟨⟨T + 1, by rw [Nat.mul_add, Nat.mul_one, ← hT]⟩, s3, g3.size.trans h3, h4.trans (g3.whole (by omega) hle), blk_grow hT g3 (Nat.le_refl _) h5, blk_rest g3 rfl h6⟩
              clear c1 H g3 s3
              go_wp2
              go_roundw
              case rel => exact ⟨a + 2 * s, d3, hle, by go_num, by go_num, H2.out⟩
              case measure => simp [RowKit.intOf]; omega
            · have hleI : ¬ (a : Int) + 2 * (s : Int) ≤ (n : Int) := by omega
              by_cases hm : a + s < n
              · have hmI : (a : Int) + (s : Int) < (n : Int) := by omega
                have c1 := CS.out a (a + s) n dk
                rw [show ((a + s : Nat) : Int) = (a : Int) + (s : Int) by omega] at c1
                have c1 := fun W hW => c1 W (by omega) hm (Nat.le_refl _) H.out.2.2.1 hW (blk_srt (t := 0) H.out.2.2.2.2.2 (by omega) (Nat.le_refl _) (by omega)) (blk_srt (t := 1) H.out.2.2.2.2.2 (by omega) (by omega) (Nat.le_refl _))
                go_wp2_with fail
                refine (c1 _ H.out.2.1).mono ?_; rintro r w3 ⟨rfl, d3, g3, s3⟩
                have H2 : Hid (SWK encA 4 w0 blk 0 d3 w3 ∧ d3.size = n ∧ SL (sg d 0 n) (sg d3 0 n) ∧ Blks (2 * s) d3 0 n) := by
                  obtain ⟨⟨T, hT⟩, _, h3, h4, h5, h6⟩ := H.out
                  exact ⟨s3, g3.size.trans h3, h4.trans (g3.whole (by omega) (Nat.le_refl _)), blk_grow hT g3 (by omega) h5⟩
                clear c1 H g3 s3
                go_wp2
                go_roundw
                case rel => exact ⟨2 * s, d3, by omega, by omega, by go_num, H2.out⟩
                case measure => simp [RowKit.intOf]; omega
              · have hmI : ¬ (a : Int) + (s : Int) < (n : Int) := by omega
                have H2 : Hid (SWK encA 4 w0 blk 0 dk wr ∧ dk.size = n ∧ SL (sg d 0 n) (sg dk 0 n) ∧ Blks (2 * s) dk 0 n) := by
                  obtain ⟨⟨T, hT⟩, h2, h3, h4, h5, h6⟩ := H.out
                  exact ⟨h2, h3, h4, blk_last hT h5 h6 ha (by omega)⟩
                clear H
                go_wp2
                go_roundw
                case rel => exact ⟨2 * s, dk, by omega, by omega, by go_num, H2.out⟩
                case measure => simp [RowKit.intOf]; omega
        · have hltI : ¬ (s : Int) < (n : Int) := by omega
          have H2 : Hid (SWK encA 4 w0 blk 0 dk wr ∧ dk.size = n ∧ SL (sg d 0 n) (sg dk 0 n) ∧ Srt (sg dk 0 n)) := ⟨H.out.1, H.out.2.1, H.out.2.2.1, blk_all H.out.2.2.2 (by omega)⟩
          clear H
          go_wp2
          go_end0
          exact ⟨rfl, dk, H2.out⟩
set_option maxRecDepth 1000000 in
theorem sortStable_any (hK : ByK) (n blk cap : Nat) (d : Array A2) (w : World) (R : RowK encA 4 w blk 0 d) (hs : d.size = n) (S : SWK encA 4 w blk 0 d w) (hsz : n < 1152921504606846976) :
    Calls Tryd.prog 40 #[.slice (some ⟨blk, 0, none⟩) n cap, .func (.func 41) #[] #[]] w fun e w' => e = .returned (.tuple #[]) ∧ ∃ d', SWK encA 4 w blk 0 d' w' ∧ d'.size = n ∧ SL (sg d 0 n) (sg d' 0 n) ∧ Srt (sg d' 0 n) := by
  have c := stable_any hK n blk cap d d w w R hs hs S hsz
  clear R S hK
  go_enter Tryd.func40, Tryd.ntmps40
  go_wp2_with fail
  refine c.mono ?_; rintro r w2 ⟨rfl, h2⟩
  go_wp2
  go_end0
  exact ⟨rfl, h2⟩
end Go.Proofs.YtigmhbgdnmkooaaDoor

/- What scalars.Len and scalars.Cut answer (parts of Sca.tpl and Cut.tpl, over a list of sentinels). -/
namespace Go.Proofs.YtigmhbgdnmkooaaDoor
open Go Go.RowKit Go.Lib
set_option linter.unusedVariables false

/-- How many scalars UTF-8 has. -/
theorem runeCountFrom_encs (s : ByteArray) : ∀ (rs : List Nat) (f pos : Nat), (∀ r ∈ rs, scal r) → s.data.toList.drop pos = encs rs → s.size - pos ≤ f → runeCountFrom s f pos = rs.length
  | [], f, pos, _, h, hf => by
    have := congrArg List.length h
    rw [List.length_drop, size_toList] at this
    exact runeCountFrom_end s f pos (by simp [encs] at this; omega)
  | r :: rs, 0, pos, hr, h, hf => by
    exfalso
    have := congrArg List.length h
    have hp := enc_pos (hr r (by simp))
    rw [List.length_drop, size_toList, encs, List.length_append] at this
    omega
  | r :: rs, f + 1, pos, hr, h, hf => by
    have hl := congrArg List.length h
    have hrr := hr r (by simp)
    have hp := enc_pos hrr
    rw [List.length_drop, size_toList, encs, List.length_append] at hl
    have hd : Utf8.decode s pos = (r, (enc r).length) := by
      rw [← decodeL_drop, h, encs, dec_enc hrr]
    rw [runeCountFrom, if_pos (by omega), hd]
    have ih := runeCountFrom_encs s rs f (pos + (enc r).length) (fun x hx => hr x (by simp [hx])) (by rw [← List.drop_drop, h, encs, List.drop_left]) (by omega)
    simp only []
    rw [ih, List.length_cons]; omega
theorem runeCount_scs (s : ByteArray) (h : brk s.data.toList = s.size) : runeCount s = (scs s.data.toList).length := by
  have hv := valid_of_brk (l := s.data.toList) (by rw [h, size_toList])
  obtain ⟨_, h1, _, _⟩ := text_cases s.data.toList
  exact runeCountFrom_encs s _ _ 0 h1 (by rw [List.drop_zero]; exact hv) (Nat.le_refl _)

theorem decode_pos (s : ByteArray) (rs : List Nat) (hv : s.data.toList = encs rs) (hs : ∀ r ∈ rs, scal r) (i : Nat) (h : i < rs.length) :
    Utf8.decode s (pos rs i) = (rs[i], (enc rs[i]).length) ∧ pos rs i < s.size := by
  have hr : scal rs[i] := hs _ (List.getElem_mem h)
  have hp := enc_pos hr
  constructor
  · rw [← decodeL_drop, hv, drop_pos, List.drop_eq_getElem_cons h, encs, dec_enc hr]
  · have h1 := pos_succ rs i h
    have h2 := pos_le rs (i + 1)
    rw [← hv, size_toList] at h2
    omega

/-- One call behind another, draws between. -/
theorem below_on {W w w1 w' : World} (h : Below W.heap.size W w) (k : Below w1.heap.size w1 w') (e : w1.heap = w.heap) (e1 : w1.os = w.os) (e2 : w1.tape = w.tape) (e3 : w1.output = w.output) : Below W.heap.size W w' :=
  h.trans ⟨k.os.trans e1, k.tape.trans e2, k.output.trans e3, e ▸ k.size, fun i hi => by
    rw [← e]; exact k.block i (by rw [e]; exact Nat.lt_of_lt_of_le hi h.size)⟩

/-- What is known of a text that is UTF-8. -/
theorem valid_text (s : ByteArray) (h : brk s.data.toList = s.size) : (∀ r ∈ scs s.data.toList, scal r) ∧ s.data.toList = encs (scs s.data.toList) ∧ (scs s.data.toList).length ≤ s.size := by
  have hv := valid_of_brk (l := s.data.toList) (by rw [h, size_toList])
  obtain ⟨_, h1, _, _⟩ := text_cases s.data.toList
  refine ⟨h1, hv, ?_⟩
  have : ∀ rs : List Nat, (∀ r ∈ rs, scal r) → rs.length ≤ (encs rs).length := fun rs => by
    induction rs with
    | nil => intro _; exact Nat.le_refl _
    | cons x rs ih =>
      intro hx
      have := enc_pos (hx x (by simp))
      have := ih fun r hr => hx r (by simp [hr])
      simp only [encs, List.length_append, List.length_cons]
      omega
  have := this _ h1
  rw [← hv, size_toList] at this
  exact this

end Go.Proofs.YtigmhbgdnmkooaaDoor

/- Operations as plain data; what an insert is refused with. -/
namespace Go.Proofs.YtigmhbgdnmkooaaDoor
open Go Go.RowKit Go.Lib
set_option linter.unusedVariables false

/-- An operation's fields. -/
structure Op5 where
  k : Int
  t : ByteArray
  v : P3
  c : Int
  A : List A2
deriving DecidableEq
/-- An operation as a value, its list being s. -/
abbrev opV (o : Op5) (s : Value) : Value := .agg #[.int .i64 o.k, .string o.t, .int .i64 o.v.1, .int .i64 o.v.2.1, .string o.v.2.2, .int .i64 o.c, s]
/-- What an insert's own fields are refused with. -/
def fldE (o : Op5) : Nat :=
  if o.k ≠ 1 ∧ o.k ≠ 2 then 5
  else if o.c ≠ 0 ∨ (o.k = 1 ∧ (o.t.toList.isEmpty = true ∨ o.v ≠ z0)) then 9
  else if o.k = 2 ∧ (o.t.toList.isEmpty = true ∨ 64 < o.t.size) then 6 else 0
/-- What an insert is refused with. -/
def insE (o : Op5) : Nat :=
  if fldE o ≠ 0 then fldE o else if brk o.t.data.toList ≠ o.t.size then 1 else if chkP o.v ≠ 0 then chkP o.v else listE false none o.A
/-- How many cells an insert has. -/
def lenO (o : Op5) : Nat := if o.k = 1 then (scs o.t.data.toList).length else 1

theorem chk_z0 : chkP z0 = 0 := chk_null
/-- What is known of an insert that isn't refused. -/
structure Ins (o : Op5) : Prop where
  kind : o.k = 1 ∧ o.v = z0 ∨ o.k = 2 ∧ o.t.size ≤ 64
  full : o.t.toList.isEmpty = false
  count : o.c = 0
  utf : brk o.t.data.toList = o.t.size
  val : chkP o.v = 0
  set : listE false none o.A = 0
theorem ins_of {o : Op5} (h : insE o = 0) : Ins o := by
  unfold insE at h
  by_cases hf : fldE o = 0
  · rw [if_neg (by simpa using hf)] at h
    by_cases hb : brk o.t.data.toList = o.t.size
    · rw [if_neg (by simpa using hb)] at h
      by_cases hv : chkP o.v = 0
      · rw [if_neg (by simpa using hv)] at h
        unfold fldE at hf
        by_cases h1 : o.k ≠ 1 ∧ o.k ≠ 2
        · rw [if_pos h1] at hf; cases hf
        · rw [if_neg h1] at hf
          by_cases h2 : o.c ≠ 0 ∨ (o.k = 1 ∧ (o.t.toList.isEmpty = true ∨ o.v ≠ z0))
          · rw [if_pos h2] at hf; cases hf
          · rw [if_neg h2] at hf
            by_cases h3 : o.k = 2 ∧ (o.t.toList.isEmpty = true ∨ 64 < o.t.size)
            · rw [if_pos h3] at hf; cases hf
            · have hc : o.c = 0 := Decidable.byContradiction fun hc => h2 (Or.inl hc)
              by_cases hk : o.k = 1
              · refine ⟨Or.inl ⟨hk, Decidable.byContradiction fun hz => h2 (Or.inr ⟨hk, Or.inr hz⟩)⟩, ?_, hc, hb, hv, h⟩
                cases he : o.t.toList.isEmpty
                · rfl
                · exact absurd (Or.inr ⟨hk, Or.inl he⟩) h2
              · have hk2 : o.k = 2 := Decidable.byContradiction fun hz => h1 ⟨hk, hz⟩
                refine ⟨Or.inr ⟨hk2, Nat.le_of_not_lt fun hz => h3 ⟨hk2, Or.inr hz⟩⟩, ?_, hc, hb, hv, h⟩
                cases he : o.t.toList.isEmpty
                · rfl
                · exact absurd ⟨hk2, Or.inl he⟩ h3
      · rw [if_pos (by simpa using hv)] at h; exact absurd h hv
    · rw [if_pos (by simpa using hb)] at h; cases h
  · rw [if_pos (by simpa using hf)] at h; exact absurd h hf
theorem Ins.fld {o : Op5} (h : Ins o) : fldE o = 0 := by
  unfold fldE
  rcases h.kind with ⟨k, v⟩ | ⟨k, t⟩
  · rw [if_neg (fun x => x.1 k), if_neg, if_neg]
    · rw [k]; rintro ⟨x, _⟩; cases x
    · rintro (x | ⟨_, x | x⟩)
      · exact x h.count
      · rw [h.full] at x; cases x
      · exact x v
  · rw [if_neg (fun x => x.2 k), if_neg, if_neg]
    · rintro ⟨_, x | x⟩
      · rw [h.full] at x; cases x
      · omega
    · rintro (x | ⟨x, _⟩)
      · exact x h.count
      · rw [k] at x; cases x
theorem Ins.zero {o : Op5} (h : Ins o) : insE o = 0 := by
  unfold insE
  rw [if_neg (by simpa using h.fld), if_neg (by simpa using h.utf), if_neg (by simpa using h.val)]
  exact h.set
theorem ins_iff {o : Op5} : insE o = 0 ↔ Ins o := ⟨ins_of, Ins.zero⟩
theorem fldE_le (o : Op5) : fldE o ≤ 9 := by
  unfold fldE
  split
  · omega
  · split
    · omega
    · split <;> omega
theorem insE_le (o : Op5) (hl : ∀ L : List A2, listE false none L ≤ 10) : insE o ≤ 10 := by
  unfold insE
  split
  · have := fldE_le o; omega
  · split
    · omega
    · split
      · exact chk_le _ _ _
      · exact hl _
/-- Under the empty patch a set is itself. -/
theorem comp_nil {A : List A2} (h : listE false none A = 0) : jn (chC false) A [] = A := by
  obtain ⟨_, ha, hn⟩ := set_iff.1 h
  refine up_ext (up_join _ ha up_nil) ha fun k => ?_
  rw [look_join _ ha up_nil]
  cases e : look k A with
  | none => simp [at2, look]
  | some v =>
    have := nn_look hn e
    simp [at2, fOf, chC, look, this]
theorem bothE_nil (A : List A2) : bothE A false [] true = listE false none A := by
  unfold bothE
  by_cases h : listE false none A = 0
  · rw [if_pos h, h]; rfl
  · rw [if_neg h]
end Go.Proofs.YtigmhbgdnmkooaaDoor

/- content.checkFields and Marked.Attributes. -/
namespace Go.Proofs.YtigmhbgdnmkooaaDoor
open Go Go.RowKit Go.Lib
set_option linter.unusedVariables false

/-- Where content wants its errors. -/
abbrev IC : List Nat := [0, 4, 5, 6, 7, 8, 9, 11]
/-- Those that its Of wants. -/
abbrev IW : List Nat := [0, 4, 5, 6, 7, 8, 9]
theorem IC_w {I : List Nat} (hI : ∀ i ∈ IC, i ∈ I) : ∀ i ∈ IW, i ∈ I := fun i hi => hI i (by simp at hi ⊢; omega)
abbrev opC (o : Op5) (s : Value) : Array Value := #[.int .i64 o.k, .string o.t, .int .i64 o.v.1, .int .i64 o.v.2.1, .string o.v.2.2, .int .i64 o.c, s]

end Go.Proofs.YtigmhbgdnmkooaaDoor

/- content.Of: an insert as a piece. -/
namespace Go.Proofs.YtigmhbgdnmkooaaDoor
open Go Go.RowKit Go.Lib
set_option linter.unusedVariables false

/-- A row of pairs whose nil is empty. -/
structure RN (w : World) (v : Value) (A : List A2) : Prop where
  row : RowA w v A
  nz : ∀ m c, v = .slice none m c → m = 0 ∧ c = 0
theorem RN.below {w w' : World} {v : Value} {A : List A2} (h : RN w v A) (b : Below w.heap.size w w') : RN w' v A := ⟨h.row.below b, h.nz⟩
theorem own_RN {w : World} {B : Nat} {v : Value} {A : List A2} (h : OwnA w B v A) : RN w v A := ⟨own_rowA h, own_nil h⟩
theorem RN.nil (w : World) : RN w (.slice none 0 0) [] := ⟨RowA.nil _ _ _, fun m c h => by simp only [Value.slice.injEq] at h; exact ⟨h.2.1.symm, h.2.2.symm⟩⟩
/-- An operation that isn't too great. -/
structure Fit (o : Op5) : Prop where
  t : o.t.size ≤ 8388608
  v : o.v.2.2.size ≤ 1048576
  A : ∀ q ∈ o.A, q.1.size ≤ 1048576 ∧ q.2.2.2.size ≤ 1048576
  n : o.A.length ≤ 1048576
theorem Fit.small {o : Op5} (h : Fit o) : Small o.A := fun q hq => by have := h.A q hq; unfold big; omega
/-- An operation in memory. -/
structure BoxO (w : World) (B : Nat) (o : Op5) (s : Value) : Prop where
  d0 : w.cell? ⟨B, 0, none⟩ = some (.int .i64 o.k)
  d1 : w.cell? ⟨B, 1, none⟩ = some (.string o.t)
  d2 : w.cell? ⟨B, 2, none⟩ = some (.int .i64 o.v.1)
  d3 : w.cell? ⟨B, 3, none⟩ = some (.int .i64 o.v.2.1)
  d4 : w.cell? ⟨B, 4, none⟩ = some (.string o.v.2.2)
  d5 : w.cell? ⟨B, 5, none⟩ = some (.int .i64 o.c)
  d6 : w.cell? ⟨B, 6, none⟩ = some s
theorem BoxO.below {w w' : World} {B : Nat} {o : Op5} {s : Value} (h : BoxO w B o s) (b : Below w.heap.size w w') : BoxO w' B o s :=
  ⟨(b.cell (lt_of_cell h.d0)).trans h.d0, (b.cell (lt_of_cell h.d1)).trans h.d1, (b.cell (lt_of_cell h.d2)).trans h.d2, (b.cell (lt_of_cell h.d3)).trans h.d3, (b.cell (lt_of_cell h.d4)).trans h.d4, (b.cell (lt_of_cell h.d5)).trans h.d5, (b.cell (lt_of_cell h.d6)).trans h.d6⟩
theorem BoxO.drew {w : World} {B : Nat} {o : Op5} {s : Value} (h : BoxO w B o s) : BoxO w.drew B o s := ⟨h.d0, h.d1, h.d2, h.d3, h.d4, h.d5, h.d6⟩
theorem valP_if (p : P3) : ∃ u x, valP p = .iface u x := by
  unfold valP valOf
  split
  · exact ⟨_, _, rfl⟩
  · split
    · exact ⟨_, _, rfl⟩
    · split <;> exact ⟨_, _, rfl⟩
theorem IW_v {I : List Nat} (hI : ∀ i ∈ IW, i ∈ I) : ∀ i ∈ [0, 4, 9], i ∈ I := fun i hi => hI i (by simp at hi ⊢; omega)
theorem IW_x {I : List Nat} (hI : ∀ i ∈ IW, i ∈ I) : ∀ i ∈ IX, i ∈ I := fun i hi => hI i (by simp at hi ⊢; omega)
theorem IC_v {I : List Nat} (hI : ∀ i ∈ IC, i ∈ I) : ∀ i ∈ [0, 4, 9], i ∈ I := fun i hi => hI i (by simp at hi ⊢; omega)
theorem IC_s {I : List Nat} (hI : ∀ i ∈ IC, i ∈ I) : ∀ i ∈ [0, 11], i ∈ I := fun i hi => hI i (by simp at hi ⊢; omega)
theorem IC_x {I : List Nat} (hI : ∀ i ∈ IC, i ∈ I) : ∀ i ∈ IX, i ∈ I := fun i hi => hI i (by simp at hi ⊢; omega)

end Go.Proofs.YtigmhbgdnmkooaaDoor

/- What vellumref04.SameAttrs, content.Same and vellumref04.Same answer. -/
namespace Go.Proofs.YtigmhbgdnmkooaaDoor
open Go Go.RowKit Go.Lib
set_option linter.unusedVariables false
theorem eql_pl (p q : P3) (b : Bool) (h : samP p q = b) (w : World) : (binOp .eql 36 (plV p) (plV q)).run Tryd.prog w = .ok (.bool b) w := by
  rw [run_eql_struct, show (Op.equalIn 10000 36 (plV p) (plV q)).run Tryd.prog w = .ok (samP p q) w from eqIn_pl p.1 p.2.1 p.2.2 q.1 q.2.1 q.2.2 w, ← h]; rfl

end Go.Proofs.YtigmhbgdnmkooaaDoor

/- Rows of cells as they lie in memory. -/
namespace Go.Proofs.YtigmhbgdnmkooaaDoor
open Go Go.RowKit Go.Lib
set_option linter.unusedVariables false

abbrev Sl : Type := Option Addr × Nat × Nat
abbrev slV (s : Sl) : Value := .slice s.1 s.2.1 s.2.2
/-- A cell as it lies in memory: its fields, its list as a slice. -/
abbrev CV : Type := Int × ByteArray × P3 × Sl
/-- A cell as plain data. -/
abbrev C5 : Type := Int × ByteArray × P3 × List A2
abbrev ceV (d : CV) : Value := .agg #[.int .i32 d.1, .string d.2.1, .int .i64 d.2.2.1.1, .int .i64 d.2.2.1.2.1, .string d.2.2.1.2.2, slV d.2.2.2]
def cellsC : List CV → List Value
  | [] => []
  | d :: r => .int .i32 d.1 :: .string d.2.1 :: .int .i64 d.2.2.1.1 :: .int .i64 d.2.2.1.2.1 :: .string d.2.2.1.2.2 :: slV d.2.2.2 :: cellsC r
theorem cellsC_len : ∀ L : List CV, (cellsC L).length = L.length * 6
  | [] => rfl
  | q :: r => by simp [cellsC, cellsC_len r]; omega
theorem cellsC_append : ∀ L M : List CV, cellsC (L ++ M) = cellsC L ++ cellsC M
  | [], M => rfl
  | q :: r, M => by simp [cellsC, cellsC_append r M]
theorem cellsC_one : ∀ (L : List CV), ∀ u ∈ cellsC L, u.oneCell' = true
  | [], u, h => by cases h
  | q :: r, u, h => by
    simp only [cellsC, List.mem_cons] at h
    rcases h with rfl | rfl | rfl | rfl | rfl | rfl | h
    · rfl
    · rfl
    · rfl
    · rfl
    · rfl
    · rfl
    · exact cellsC_one r u h
theorem cellsC_get : ∀ (L : List CV) (i : Nat) (d : CV), L[i]? = some d → (cellsC L)[i * 6]? = some (.int .i32 d.1) ∧ (cellsC L)[i * 6 + 1]? = some (.string d.2.1) ∧ (cellsC L)[i * 6 + 2]? = some (.int .i64 d.2.2.1.1) ∧ (cellsC L)[i * 6 + 3]? = some (.int .i64 d.2.2.1.2.1) ∧ (cellsC L)[i * 6 + 4]? = some (.string d.2.2.1.2.2) ∧ (cellsC L)[i * 6 + 5]? = some (slV d.2.2.2)
  | [], i, q, h => by simp at h
  | p :: r, 0, q, h => by
    obtain rfl : p = q := by simpa using h
    exact ⟨rfl, rfl, rfl, rfl, rfl, rfl⟩
  | p :: r, i + 1, q, h => by
    have := cellsC_get r i q (by simpa using h)
    rw [show (i + 1) * 6 = i * 6 + 1 + 1 + 1 + 1 + 1 + 1 by omega]
    simpa [cellsC] using this
/-- Cells that lie in a row from a place on. -/
def InC (w : World) (b off : Nat) (D : List CV) : Prop := ∀ (j : Nat) (u : Value), (cellsC D)[j]? = some u → w.cell? ⟨b, off + j, none⟩ = some u
theorem InC.below {w w' : World} {b off : Nat} {D : List CV} (h : InC w b off D) (hb : Below w.heap.size w w') : InC w' b off D := fun j u hu => (hb.cell (lt_of_cell (h j u hu))).trans (h j u hu)
/-- A slice of cells, as it lies in memory. -/
def RowC (w : World) (v : Value) (D : List CV) : Prop :=
  ∃ p cap, v = .slice p D.length cap ∧ D.length ≤ cap ∧ (p = none → cap = 0) ∧ (D ≠ [] → ∃ b off, p = some ⟨b, off, none⟩ ∧ InC w b off D)
theorem RowC.below {w w' : World} {v : Value} {D : List CV} (h : RowC w v D) (hb : Below w.heap.size w w') : RowC w' v D := by
  obtain ⟨p, cap, rfl, hl, hn, hc⟩ := h
  exact ⟨p, cap, rfl, hl, hn, fun hD => by obtain ⟨b, off, hp, h0⟩ := hc hD; exact ⟨b, off, hp, h0.below hb⟩⟩
/-- Two lists, place by place. -/
inductive All2 {α β : Type} (R : α → β → Prop) : List α → List β → Prop
  | nil : All2 R [] []
  | cons {a : α} {b : β} {l : List α} {m : List β} (h : R a b) (t : All2 R l m) : All2 R (a :: l) (b :: m)
theorem All2.imp {α β : Type} {R S : α → β → Prop} (h : ∀ a b, R a b → S a b) : ∀ {l : List α} {m : List β}, All2 R l m → All2 S l m
  | _, _, .nil => .nil
  | _, _, .cons hr t => .cons (h _ _ hr) (All2.imp h t)
/-- What the cells of a row are, their lists read from memory. -/
def Are (w : World) (D : List CV) (E : List C5) : Prop := All2 (fun (d : CV) (e : C5) => d.1 = e.1 ∧ d.2.1 = e.2.1 ∧ d.2.2.1 = e.2.2.1 ∧ RN w (slV d.2.2.2) e.2.2.2) D E
/-- The same, each list the call's own. -/
def AreO (w : World) (B : Nat) (D : List CV) (E : List C5) : Prop := All2 (fun (d : CV) (e : C5) => d.1 = e.1 ∧ d.2.1 = e.2.1 ∧ d.2.2.1 = e.2.2.1 ∧ OwnA w B (slV d.2.2.2) e.2.2.2) D E
theorem AreO.are {w : World} {B : Nat} {D : List CV} {E : List C5} (h : AreO w B D E) : Are w D E := All2.imp (fun d e h => ⟨h.1, h.2.1, h.2.2.1, own_RN h.2.2.2⟩) h
theorem Are.below {w w' : World} {D : List CV} {E : List C5} (h : Are w D E) (hb : Below w.heap.size w w') : Are w' D E := All2.imp (fun d e h => ⟨h.1, h.2.1, h.2.2.1, h.2.2.2.below hb⟩) h
/-- All blocks of pairs are as they were. -/
def KeepA (w w' : World) : Prop := ∀ (k : Nat) (cur : Array Value), w.heap[k]? = some (.cells cur 48 (0, 0)) → w'.heap[k]? = w.heap[k]?
theorem KeepA.trans {w w' w'' : World} (h : KeepA w w') (h' : KeepA w' w'') : KeepA w w'' := fun k cur hk => (h' k cur ((h k cur hk).trans hk)).trans (h k cur hk)
theorem keepA_below {w w' : World} (hb : Below w.heap.size w w') : KeepA w w' := fun k cur hk => hb.block k (Array.getElem?_eq_some_iff.1 hk).1
theorem keepA_own {w w' : World} {B : Nat} {v : Value} {A : List A2} (h : OwnA w B v A) (hk : KeepA w w') : OwnA w' B v A := by
  obtain ⟨hl, h⟩ := h
  refine ⟨hl, ?_⟩
  rcases h with h | ⟨g, cap, cur, h1, h2, h3, h4⟩
  · exact Or.inl h
  · exact Or.inr ⟨g, cap, cur, h1, h2, (hk g cur h3).trans h3, h4⟩
theorem AreO.keep {w w' : World} {B : Nat} {D : List CV} {E : List C5} (h : AreO w B D E) (hk : KeepA w w') : AreO w' B D E := All2.imp (fun d e h => ⟨h.1, h.2.1, h.2.2.1, keepA_own h.2.2.2 hk⟩) h
theorem forall2_append {α β : Type} {R : α → β → Prop} : ∀ {a c : List α} {b d : List β}, All2 R a b → All2 R c d → All2 R (a ++ c) (b ++ d)
  | _, _, _, _, .nil, h => h
  | _, _, _, _, .cons h t, h' => .cons h (forall2_append t h')
theorem forall2_len {α β : Type} {R : α → β → Prop} : ∀ {a : List α} {b : List β}, All2 R a b → a.length = b.length
  | _, _, .nil => rfl
  | _, _, .cons _ t => by simp [forall2_len t]
theorem forall2_get {α β : Type} {R : α → β → Prop} : ∀ {a : List α} {b : List β}, All2 R a b → ∀ (i : Nat) (x : α), a[i]? = some x → ∃ y, b[i]? = some y ∧ R x y
  | _, _, .nil, i, x, h => by simp at h
  | _, _, .cons hr t, 0, x, h => ⟨_, rfl, by simp at h; exact h ▸ hr⟩
  | _, _, .cons hr t, i + 1, x, h => by simpa using forall2_get t i x (by simpa using h)
/-- An operation whose guard lets it through. -/
theorem wpList_strike {w : World} {ops : Array Oper} {rest : List Oper} {o : Oper} {a : Act} {Q : Exit → Act → World → Prop} (hw : Region.wanted o (yielded ops a.tmps) = true)
    (h : wpList Tryd.prog ops Q ({ o with guard := none } :: rest) a w) : wpList Tryd.prog ops Q (o :: rest) a w := by
  unfold wpList at h ⊢
  rw [if_pos hw]
  rw [if_pos (by simp [Region.wanted])] at h
  exact h
end Go.Proofs.YtigmhbgdnmkooaaDoor

/- Rows of operations as they lie in memory. -/
namespace Go.Proofs.YtigmhbgdnmkooaaDoor
open Go Go.RowKit Go.Lib
set_option linter.unusedVariables false

/-- An operation as it lies in memory: its fields, its list as a slice. -/
abbrev OV : Type := Int × ByteArray × P3 × Int × Sl
abbrev ovC (d : OV) : Array Value := #[.int .i64 d.1, .string d.2.1, .int .i64 d.2.2.1.1, .int .i64 d.2.2.1.2.1, .string d.2.2.1.2.2, .int .i64 d.2.2.2.1, slV d.2.2.2.2]
abbrev ovV (d : OV) : Value := .agg (ovC d)
def cellsO : List OV → List Value
  | [] => []
  | d :: r => .int .i64 d.1 :: .string d.2.1 :: .int .i64 d.2.2.1.1 :: .int .i64 d.2.2.1.2.1 :: .string d.2.2.1.2.2 :: .int .i64 d.2.2.2.1 :: slV d.2.2.2.2 :: cellsO r
theorem cellsO_len : ∀ L : List OV, (cellsO L).length = L.length * 7
  | [] => rfl
  | q :: r => by simp [cellsO, cellsO_len r]; omega
theorem cellsO_append : ∀ L M : List OV, cellsO (L ++ M) = cellsO L ++ cellsO M
  | [], M => rfl
  | q :: r, M => by simp [cellsO, cellsO_append r M]
theorem cellsO_one : ∀ (L : List OV), ∀ u ∈ cellsO L, u.oneCell' = true
  | [], u, h => by cases h
  | q :: r, u, h => by
    simp only [cellsO, List.mem_cons] at h
    rcases h with rfl | rfl | rfl | rfl | rfl | rfl | rfl | h
    · rfl
    · rfl
    · rfl
    · rfl
    · rfl
    · rfl
    · rfl
    · exact cellsO_one r u h
theorem cellsO_get : ∀ (L : List OV) (i : Nat) (d : OV), L[i]? = some d → (cellsO L)[i * 7]? = some (.int .i64 d.1) ∧ (cellsO L)[i * 7 + 1]? = some (.string d.2.1) ∧ (cellsO L)[i * 7 + 2]? = some (.int .i64 d.2.2.1.1) ∧ (cellsO L)[i * 7 + 3]? = some (.int .i64 d.2.2.1.2.1) ∧ (cellsO L)[i * 7 + 4]? = some (.string d.2.2.1.2.2) ∧ (cellsO L)[i * 7 + 5]? = some (.int .i64 d.2.2.2.1) ∧ (cellsO L)[i * 7 + 6]? = some (slV d.2.2.2.2)
  | [], i, q, h => by simp at h
  | p :: r, 0, q, h => by
    obtain rfl : p = q := by simpa using h
    exact ⟨rfl, rfl, rfl, rfl, rfl, rfl, rfl⟩
  | p :: r, i + 1, q, h => by
    have := cellsO_get r i q (by simpa using h)
    rw [show (i + 1) * 7 = i * 7 + 1 + 1 + 1 + 1 + 1 + 1 + 1 by omega]
    simpa [cellsO] using this
/-- An operation at a place. -/
structure OpAt (w : World) (b off : Nat) (d : OV) : Prop where
  c0 : w.cell? ⟨b, off, none⟩ = some (.int .i64 d.1)
  c1 : w.cell? ⟨b, off + 1, none⟩ = some (.string d.2.1)
  c2 : w.cell? ⟨b, off + 2, none⟩ = some (.int .i64 d.2.2.1.1)
  c3 : w.cell? ⟨b, off + 3, none⟩ = some (.int .i64 d.2.2.1.2.1)
  c4 : w.cell? ⟨b, off + 4, none⟩ = some (.string d.2.2.1.2.2)
  c5 : w.cell? ⟨b, off + 5, none⟩ = some (.int .i64 d.2.2.2.1)
  c6 : w.cell? ⟨b, off + 6, none⟩ = some (slV d.2.2.2.2)
theorem OpAt.lt {w : World} {b off : Nat} {d : OV} (h : OpAt w b off d) : b < w.heap.size := lt_of_cell h.c0
theorem OpAt.same {w w' : World} {b off : Nat} {d : OV} (h : OpAt w b off d) (e : ∀ i, w'.cell? ⟨b, i, none⟩ = w.cell? ⟨b, i, none⟩) : OpAt w' b off d :=
  ⟨(e _).trans h.c0, (e _).trans h.c1, (e _).trans h.c2, (e _).trans h.c3, (e _).trans h.c4, (e _).trans h.c5, (e _).trans h.c6⟩
theorem OpAt.below {w w' : World} {b off : Nat} {d : OV} (h : OpAt w b off d) (hb : Below w.heap.size w w') : OpAt w' b off d := h.same fun i => World.cell?_of_block (a := ⟨b, i, none⟩) (hb.block b h.lt)
/-- A slice of operations, as it lies in memory. -/
def RowO (w : World) (v : Value) (D : List OV) : Prop :=
  ∃ p cap, v = .slice p D.length cap ∧ D.length ≤ cap ∧ (p = none → cap = 0) ∧ ∀ (j : Nat) (d : OV), D[j]? = some d → ∃ b off, p = some ⟨b, off, none⟩ ∧ OpAt w b (off + j * 7) d
theorem RowO.below {w w' : World} {v : Value} {D : List OV} (h : RowO w v D) (hb : Below w.heap.size w w') : RowO w' v D := by
  obtain ⟨p, cap, rfl, hl, hn, hc⟩ := h
  exact ⟨p, cap, rfl, hl, hn, fun j d hd => by obtain ⟨b, off, hp, h0⟩ := hc j d hd; exact ⟨b, off, hp, h0.below hb⟩⟩
theorem RowO.nil (w : World) : RowO w (.slice none 0 0) [] := ⟨none, 0, rfl, Nat.le_refl _, fun _ => rfl, fun j d h => by simp at h⟩
end Go.Proofs.YtigmhbgdnmkooaaDoor

/- The mark behind a list's end. -/
namespace Go.Proofs.YtigmhbgdnmkooaaDoor
abbrev s1 : A2 := (⟨#[115, 112, 97, 114, 101]⟩, 0, 0, ⟨#[]⟩)
end Go.Proofs.YtigmhbgdnmkooaaDoor

/- What vellumspare.Copy makes: operations with spare room; what writing over them leaves. -/
namespace Go.Proofs.YtigmhbgdnmkooaaDoor
open Go Go.RowKit Go.Lib
set_option linter.unusedVariables false

/-- But for the blocks between two marks the memory stands, and all blocks keep their shape. -/
structure Out (lo hi : Nat) (w w' : World) : Prop where
  os : w'.os = w.os
  tape : w'.tape = w.tape
  output : w'.output = w.output
  size : w.heap.size ≤ w'.heap.size
  block : ∀ k, k < w.heap.size → (k < lo ∨ hi ≤ k) → w'.heap[k]? = w.heap[k]?
  shape : ∀ (k : Nat) (cur : Array Value) (e : TypeId) (fz : Nat × Nat), w.heap[k]? = some (.cells cur e fz) → k < hi → ∃ cur' : Array Value, w'.heap[k]? = some (.cells cur' e fz) ∧ cur'.size = cur.size
theorem Out.refl (lo hi : Nat) (w : World) : Out lo hi w w := ⟨rfl, rfl, rfl, Nat.le_refl _, fun _ _ _ => rfl, fun k cur e fz h _ => ⟨cur, h, rfl⟩⟩
theorem Out.trans {lo hi : Nat} {a b c : World} (h : Out lo hi a b) (k : Out lo hi b c) : Out lo hi a c :=
  ⟨k.os.trans h.os, k.tape.trans h.tape, k.output.trans h.output, Nat.le_trans h.size k.size, fun i hi ho => (k.block i (Nat.lt_of_lt_of_le hi h.size) ho).trans (h.block i hi ho), fun i cur e fz hc hi => by
    obtain ⟨c1, h1, s1⟩ := h.shape i cur e fz hc hi
    obtain ⟨c2, h2, s2⟩ := k.shape i c1 e fz h1 hi
    exact ⟨c2, h2, s2.trans s1⟩⟩
theorem Out.of_below {lo hi : Nat} {w w' : World} (h : Below w.heap.size w w') : Out lo hi w w' :=
  ⟨h.os, h.tape, h.output, h.size, fun k hk _ => h.block k hk, fun k cur e fz hc _ => ⟨cur, (h.block k (Array.getElem?_eq_some_iff.1 hc).1).trans hc, rfl⟩⟩
theorem Out.drew {lo hi : Nat} {w w' : World} (h : Out lo hi w w') : Out lo hi w w'.drew := ⟨h.os, h.tape, h.output, h.size, h.block, h.shape⟩
theorem heap_set_at (w : World) (g j : Nat) (u : Value) (cur : Array Value) (e : TypeId) (f : Nat × Nat) (h : w.heap[g]? = some (.cells cur e f)) : (w.setCell ⟨g, j, none⟩ u).heap[g]? = some (.cells (cur.setIfInBounds j u) e f) := by
  simp [World.setCell, Array.getElem?_modify, h]
theorem Out.setCell {lo hi : Nat} {w w' : World} (h : Out lo hi w w') (g j : Nat) (u : Value) (h1 : lo ≤ g) (h2 : g < hi) : Out lo hi w (w'.setCell ⟨g, j, none⟩ u) := by
  refine h.trans ⟨rfl, rfl, rfl, by simp, fun k hk ho => Below.heap_setCell _ _ _ _ (by show k ≠ g; omega), fun k cur e fz hc _ => ?_⟩
  by_cases hg : k = g
  · subst hg
    exact ⟨_, heap_set_at _ _ _ _ _ _ _ hc, by simp⟩
  · exact ⟨cur, (Below.heap_setCell _ _ _ _ hg).trans hc, rfl⟩
theorem Out.below {lo hi : Nat} {w w' : World} (h : Out lo hi w w') (hl : lo ≤ w.heap.size) : Below lo w w' := ⟨h.os, h.tape, h.output, h.size, fun k hk => h.block k (by omega) (Or.inl hk)⟩
theorem Out.own {lo hi B : Nat} {w w' : World} (h : Out lo hi w w') (hB : hi ≤ B) {e : TypeId} {sz n : Nat} {v : Value} {xs : List Value} (o : w.ownsRow B e sz v n xs) : w'.ownsRow B e sz v n xs :=
  owns_same o fun k hk => by
    obtain ⟨h1, cur, h2⟩ := owns_block o k hk
    exact h.block k (Array.getElem?_eq_some_iff.1 h2).1 (Or.inr (by omega))

/-- A list with a mark behind its end, in blocks between two marks. -/
def SpA (w : World) (lo hi : Nat) (s : Sl) (A : List A2) : Prop :=
  (A = [] ∧ s = (none, 0, 0)) ∨ ∃ g c, A ≠ [] ∧ s = (some ⟨g, 0, none⟩, A.length, c) ∧ lo ≤ g ∧ g < hi ∧ A.length ≤ c ∧ OwnA w lo (.slice (some ⟨g, 0, none⟩) (A ++ [s1]).length c) (A ++ [s1])
theorem SpA.below {w w' : World} {lo hi hi' : Nat} {s : Sl} {A : List A2} (h : SpA w lo hi s A) (b : Below w.heap.size w w') (hh : hi ≤ hi') : SpA w' lo hi' s A := by
  rcases h with h | ⟨g, c, h1, h2, h3, h4, h5, h6⟩
  · exact Or.inl h
  · exact Or.inr ⟨g, c, h1, h2, h3, by omega, h5, owns_below h6 b⟩
theorem SpA.keep {w w' : World} {lo hi hi' : Nat} {s : Sl} {A : List A2} (h : SpA w lo hi s A) (b : KeepA w w') (hh : hi ≤ hi') : SpA w' lo hi' s A := by
  rcases h with h | ⟨g, c, h1, h2, h3, h4, h5, h6⟩
  · exact Or.inl h
  · exact Or.inr ⟨g, c, h1, h2, h3, by omega, h5, keepA_own h6 b⟩
theorem SpA.RN {w : World} {lo hi : Nat} {s : Sl} {A : List A2} (h : SpA w lo hi s A) : RN w (slV s) A := by
  rcases h with ⟨rfl, rfl⟩ | ⟨g, c, h1, rfl, h3, h4, h5, h6⟩
  · exact RN.nil w
  · obtain ⟨p, c', he, hc, hr⟩ := own_rowA h6
    simp only [Value.slice.injEq] at he
    obtain ⟨rfl, -, rfl⟩ := he
    refine ⟨⟨_, _, rfl, by simp at hc; omega, fun j x hx => hr j x ?_⟩, fun m c h => by simp at h⟩
    rw [List.getElem?_append_left (List.getElem?_eq_some_iff.1 hx).1]; exact hx
theorem SpA.upto {w w' : World} {lo hi hi' : Nat} {s : Sl} {A : List A2} (h : SpA w lo hi s A) (b : Below hi w w') (hh : hi ≤ hi') : SpA w' lo hi' s A := by
  rcases h with h | ⟨g, c, h1, h2, h3, h4, h5, h6⟩
  · exact Or.inl h
  · exact Or.inr ⟨g, c, h1, h2, h3, by omega, h5, owns_same h6 fun k hk => b.block k (by simp only [Value.ownBlock, Option.some.injEq] at hk; omega)⟩
theorem SpA.setBelow {w : World} {lo hi : Nat} {s : Sl} {A : List A2} (h : SpA w lo hi s A) {g : Nat} (hg : g < lo) (j : Nat) (u : Value) : SpA (w.setCell ⟨g, j, none⟩ u) lo hi s A := by
  rcases h with h | ⟨g', c, h1, h2, h3, h4, h5, h6⟩
  · exact Or.inl h
  · exact Or.inr ⟨g', c, h1, h2, h3, h4, h5, ownsRow_setCell_below h6 (a := ⟨g, j, none⟩) hg u⟩
theorem SpA.lower {w : World} {lo lo' hi : Nat} {s : Sl} {A : List A2} (h : SpA w lo hi s A) (hh : lo' ≤ lo) : SpA w lo' hi s A := by
  rcases h with h | ⟨g', c, h1, h2, h3, h4, h5, h6⟩
  · exact Or.inl h
  · exact Or.inr ⟨g', c, h1, h2, by omega, h4, h5, own_weaken h6 hh⟩
abbrev d77 : OV := (77, ⟨#[]⟩, z0, 0, (none, 0, 0))
/-- What an operation in memory is, its list with spare room. -/
def SpD (w : World) (lo hi : Nat) (D : List OV) (E : List Op5) : Prop := All2 (fun (d : OV) (e : Op5) => d.1 = e.k ∧ d.2.1 = e.t ∧ d.2.2.1 = e.v ∧ d.2.2.2.1 = e.c ∧ SpA w lo hi d.2.2.2.2 e.A) D E
/-- What operations in memory are. -/
def ReD (w : World) (D : List OV) (E : List Op5) : Prop := All2 (fun (d : OV) (e : Op5) => d.1 = e.k ∧ d.2.1 = e.t ∧ d.2.2.1 = e.v ∧ d.2.2.2.1 = e.c ∧ RN w (slV d.2.2.2.2) e.A) D E
theorem SpD.below {w w' : World} {lo hi hi' : Nat} {D : List OV} {E : List Op5} (h : SpD w lo hi D E) (b : Below w.heap.size w w') (hh : hi ≤ hi') : SpD w' lo hi' D E := All2.imp (fun d e h => ⟨h.1, h.2.1, h.2.2.1, h.2.2.2.1, h.2.2.2.2.below b hh⟩) h
theorem SpD.keep {w w' : World} {lo hi hi' : Nat} {D : List OV} {E : List Op5} (h : SpD w lo hi D E) (b : KeepA w w') (hh : hi ≤ hi') : SpD w' lo hi' D E := All2.imp (fun d e h => ⟨h.1, h.2.1, h.2.2.1, h.2.2.2.1, h.2.2.2.2.keep b hh⟩) h
theorem SpD.upto {w w' : World} {lo hi hi' : Nat} {D : List OV} {E : List Op5} (h : SpD w lo hi D E) (b : Below hi w w') (hh : hi ≤ hi') : SpD w' lo hi' D E := All2.imp (fun d e h => ⟨h.1, h.2.1, h.2.2.1, h.2.2.2.1, h.2.2.2.2.upto b hh⟩) h
theorem SpD.re {w : World} {lo hi : Nat} {D : List OV} {E : List Op5} (h : SpD w lo hi D E) : ReD w D E := All2.imp (fun d e h => ⟨h.1, h.2.1, h.2.2.1, h.2.2.2.1, h.2.2.2.2.RN⟩) h
theorem ReD.below {w w' : World} {D : List OV} {E : List Op5} (h : ReD w D E) (b : Below w.heap.size w w') : ReD w' D E := All2.imp (fun d e h => ⟨h.1, h.2.1, h.2.2.1, h.2.2.2.1, h.2.2.2.2.below b⟩) h
/-- A row of operations to read. -/
def ReO (w : World) (v : Value) (E : List Op5) : Prop := ∃ D, RowO w v D ∧ ReD w D E
theorem ReO.below {w w' : World} {v : Value} {E : List Op5} (h : ReO w v E) (b : Below w.heap.size w w') : ReO w' v E := by
  obtain ⟨D, h1, h2⟩ := h
  exact ⟨D, h1.below b, h2.below b⟩
end Go.Proofs.YtigmhbgdnmkooaaDoor
