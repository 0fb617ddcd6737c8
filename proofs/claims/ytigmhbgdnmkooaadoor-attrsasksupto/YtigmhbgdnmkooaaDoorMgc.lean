/- Rows of pairs that are the call's own, and the words of the library's sorts; the firsts of neighbours with one key. slices.Reverse at pairs. slices.CompactFunc at pairs, by their keys. Reverse, SortStableFunc, CompactFunc of a row of the call's own. What attrs.Of answers. The document's answers of the attrs' calls as joins. What vellumref03.Between answers. What vellumref03.Compose, Apply, Diff, Invert and Transform answer. vellumhand.Attrs and Kept. The errors' numbers: what vellumnum.list and vellumnum.Num answer where all nineteen sentinels lie as laid. vellumhand.Kept and vellumlaw03.same. What vellumlaw03.lives answers: true. Of all lists, keys and numbers vellumlaw03.AttrsAsks answers true. Of all lists, keys and numbers vellumlaw03.AttrsAsks answers true. -/
import Derived.Test.YtigmhbgdnmkooaaDoorMgb
import Derived.Shelf.SlicesQ.Reverse
import Derived.Lib.SliceRun
import Derived.Deep.RegionHeld3
import Derived.Test.YtigmhbgdnmkooaaDoorRl
import Derived.Test.YtigmhbgdnmkooaaDoorRj
import Derived.Deep.DeepCutAuto
import Derived.Test.YtigmhbgdnmkooaaDoorEr
import Derived.Test.YtigmhbgdnmkooaaDoorPc
import Derived.Test.YtigmhbgdnmkooaaDoorMga

/- Rows of pairs that are the call's own, and the words of the library's sorts; the firsts of neighbours with one key. -/
namespace Go.Proofs.YtigmhbgdnmkooaaDoor
open Go Go.RowKit Go.Lib Go.Sort
set_option linter.unusedVariables false

/-- What is kept behind a pair with the key p. -/
def keepsR : ByteArray → List A2 → List A2
  | _, [] => []
  | p, q :: t => if q.1 = p then keepsR q.1 t else q :: keepsR q.1 t
theorem firsts_eq : ∀ (n : Nat) (q : A2) (t : List A2), t.length ≤ n → firsts (q :: t) = q :: keepsR q.1 t
  | _, q, [], _ => by rw [firsts, keepsR]
  | 0, q, r :: t, h => by simp at h
  | n + 1, q, r :: t, h => by
    have hn : t.length ≤ n := by simpa using h
    rw [firsts, keepsR]
    by_cases e : q.1 = r.1
    · rw [if_pos e, if_pos e.symm, firsts_eq n q t hn, e]
    · rw [if_neg e, if_neg (fun h => e h.symm), firsts_eq n r t hn]
def lastK : ByteArray → List A2 → ByteArray
  | p, [] => p
  | _, q :: t => lastK q.1 t
theorem keepsR_snoc (y : A2) : ∀ (A : List A2) (p : ByteArray), keepsR p (A ++ [y]) = keepsR p A ++ (if y.1 = lastK p A then [] else [y])
  | [], p => by
    show keepsR p [y] = keepsR p [] ++ _
    rw [keepsR, keepsR, keepsR, lastK, List.nil_append]
  | q :: t, p => by
    rw [List.cons_append, keepsR, keepsR, keepsR_snoc y t q.1, lastK]
    split
    · rfl
    · rfl
theorem lastK_last : ∀ (A : List A2) (p : ByteArray) (x : A2), A.getLast? = some x → lastK p A = x.1
  | [], p, x, h => by simp at h
  | [q], p, x, h => by
    obtain rfl : q = x := by simpa using h
    rfl
  | q :: r :: t, p, x, h => by
    rw [lastK]
    exact lastK_last (r :: t) q.1 x (by rw [List.getLast?_cons_cons] at h; exact h)
/-- One pair more. -/
theorem firsts_take {L : List A2} {k : Nat} {x y : A2} (hx : L[k]? = some x) (hy : L[k + 1]? = some y) : firsts (L.take (k + 2)) = firsts (L.take (k + 1)) ++ (if y.1 = x.1 then [] else [y]) := by
  have hl : k + 1 < L.length := (List.getElem?_eq_some_iff.1 hy).1
  cases L with
  | nil => simp at hl
  | cons q t =>
    have hy' : t[k]? = some y := by simpa using hy
    rw [show k + 2 = (k + 1) + 1 from rfl, List.take_succ_cons, List.take_succ_cons, firsts_eq _ q _ (Nat.le_refl _), firsts_eq _ q _ (Nat.le_refl _), List.take_add_one, hy', Option.toList_some, keepsR_snoc, List.cons_append]
    congr 2
    cases k with
    | zero =>
      obtain rfl : q = x := by simpa using hx
      rfl
    | succ k =>
      rw [lastK_last (t.take (k + 1)) q.1 x]
      rw [List.getLast?_eq_getElem?, List.length_take, Nat.min_eq_left (by simp at hl; omega), List.getElem?_take_of_lt (by omega)]
      simpa using hx
theorem firsts_le (L : List A2) : (firsts L).length ≤ L.length := by
  cases L with
  | nil => rw [firsts]; exact Nat.le_refl _
  | cons q t =>
    rw [firsts_eq _ q t (Nat.le_refl _)]
    have : ∀ (A : List A2) (p : ByteArray), (keepsR p A).length ≤ A.length := by
      intro A
      induction A with
      | nil => intro p; rw [keepsR]; exact Nat.le_refl _
      | cons a A ih =>
        intro p
        rw [keepsR]
        have := ih a.1
        split
        · simp only [List.length_cons]; omega
        · simp only [List.length_cons]; omega
    simp only [List.length_cons]
    have := this t q.1
    omega

theorem own_pairs {w : World} {B g n c : Nat} {L : List A2} (h : OwnA w B (.slice (some ⟨g, 0, none⟩) n c) L) : L.length = n ∧ n ≤ c ∧ g < w.heap.size ∧ B ≤ g ∧ (∃ cur : Array Value, w.heap[g]? = some (.cells cur 48 (0, 0)) ∧ n * 4 ≤ cur.size) ∧ ∀ j x, L[j]? = some x → PairAt w g (j * 4) x := by
  have hr := own_rowA h
  rcases h.2 with ⟨h1, _⟩ | ⟨g', cap, cur, h1, h2, h3, h4, h5, h6, h7⟩
  · cases h1
  · simp only [Value.slice.injEq, Option.some.injEq, Addr.mk.injEq, and_true] at h1
    obtain ⟨rfl, rfl, rfl⟩ := h1
    refine ⟨rfl, h4, (Array.getElem?_eq_some_iff.1 h3).1, h2, ⟨cur, h3, by rw [h6]; exact Nat.mul_le_mul_right _ h4⟩, fun j x hx => ?_⟩
    obtain ⟨p, cc, hv, _, hc⟩ := hr
    simp only [Value.slice.injEq] at hv
    obtain ⟨rfl, _, _⟩ := hv
    obtain ⟨b, off, hp, hat⟩ := hc j x hx
    simp only [Option.some.injEq, Addr.mk.injEq, and_true] at hp
    obtain ⟨rfl, rfl⟩ := hp
    rw [Nat.zero_add] at hat
    exact hat
theorem getB_list {L : List A2} {i : Nat} {q : A2} (h : L[i]? = some q) : L.toArray[i]! = q := by rw [getElem!_def, List.getElem?_toArray, h]
/-- What the sorts ask of a row. -/
theorem rowK_own {w : World} {B g n c : Nat} {L : List A2} (h : OwnA w B (.slice (some ⟨g, 0, none⟩) n c) L) : RowK encA 4 w g 0 L.toArray := by
  obtain ⟨h1, h2, h3, h4, ⟨cur, h5, h6⟩, h7⟩ := own_pairs h
  refine ⟨fun x => rfl, fun x v hv => ?_, fun t ht => ?_, h3⟩
  · simp only [encA, List.mem_cons, List.not_mem_nil, or_false] at hv
    rcases hv with rfl | rfl | rfl | rfl <;> rfl
  · rw [size_flatK] at ht
    have ht' : t < n * 4 := by simpa [h1] using ht
    refine ⟨?_, frozen_of_row w g (0 + t) cur _ h5⟩
    rw [get_flatK _ _ _ _ ht, Nat.zero_add]
    obtain ⟨q, hq⟩ : ∃ q, L[t / 4]? = some q := ⟨_, List.getElem?_eq_getElem (by omega)⟩
    obtain ⟨c0, c1, c2, c3⟩ := h7 _ _ hq
    rw [getB_list hq]
    have e : t = t / 4 * 4 + t % 4 := by omega
    have hm : t % 4 = 0 ∨ t % 4 = 1 ∨ t % 4 = 2 ∨ t % 4 = 3 := by omega
    rcases hm with hm | hm | hm | hm
    · rw [hm]; rw [hm] at e; rw [e]; rw [Nat.add_zero]; exact c0
    · rw [hm]; rw [hm] at e; rw [e]; exact c1
    · rw [hm]; rw [hm] at e; rw [e]; exact c2
    · rw [hm]; rw [hm] at e; rw [e]; exact c3
theorem out_of_swk {w W : World} {g : Nat} {d : Array A2} (h : SWK encA 4 w g 0 d W) : Out g (g + 1) w W := by
  obtain ⟨m, os, rfl⟩ := h
  have hsz : (sortWorldK encA 4 w g 0 m d os).heap = (w.heap.modify g (onCells (putCells id 0 (flatK encA 4 d)))) ++ os := rfl
  refine ⟨rfl, rfl, rfl, by rw [hsz]; simp, fun k hk ho => ?_, fun k cur e fz hc hk => ?_⟩
  · rw [hsz, Array.getElem?_append_left (by simpa using hk), Array.getElem?_modify, if_neg (by omega)]
  · have hlt := (Array.getElem?_eq_some_iff.1 hc).1
    rw [hsz, Array.getElem?_append_left (by simpa using hlt), Array.getElem?_modify]
    by_cases hg : g = k
    · rw [if_pos hg, hc]
      exact ⟨_, rfl, by simp [putCells]⟩
    · rw [if_neg hg]
      exact ⟨cur, hc, rfl⟩
theorem own_out {w W : World} {B g n c m : Nat} {L L' : List A2} (h : OwnA w B (.slice (some ⟨g, 0, none⟩) n c) L) (ho : Out g (g + 1) w W) (hm : L'.length = m) (hn : m ≤ n) (hc : ∀ j x, L'[j]? = some x → PairAt W g (j * 4) x) : OwnA W B (.slice (some ⟨g, 0, none⟩) m c) L' := by
  refine ⟨cellsA_len _, ?_⟩
  rcases h.2 with ⟨h1, _⟩ | ⟨g', cap, cur, h1, h2, h3, h4, h5, h6, h7⟩
  · cases h1
  · simp only [Value.slice.injEq, Option.some.injEq, Addr.mk.injEq, and_true] at h1
    obtain ⟨rfl, rfl, rfl⟩ := h1
    obtain ⟨cur', hb, hs⟩ := ho.shape g cur _ _ h3 (by omega)
    refine Or.inr ⟨g, c, cur', by rw [hm], h2, hb, by omega, h5, by rw [hs]; exact h6, ?_⟩
    have hcl : L'.length * 4 ≤ cur'.size := by rw [hs, h6]; exact Nat.mul_le_mul_right _ (by omega)
    apply List.ext_getElem?
    intro t
    rw [List.getElem?_take]
    by_cases ht : t < L'.length * 4
    · rw [if_pos ht]
      obtain ⟨q, hq⟩ : ∃ q, L'[t / 4]? = some q := ⟨_, List.getElem?_eq_getElem (by omega)⟩
      obtain ⟨c0, c1, c2, c3⟩ := hc _ _ hq
      obtain ⟨k0, k1, k2, k3⟩ := cellsA_get L' (t / 4) q hq
      have cell : ∀ u, W.cell? ⟨g, t, none⟩ = some u → cur'.toList[t]? = some u := fun u hu => by
        simpa [World.cell?, hb] using hu
      have e : t = t / 4 * 4 + t % 4 := by omega
      have hmm : t % 4 = 0 ∨ t % 4 = 1 ∨ t % 4 = 2 ∨ t % 4 = 3 := by omega
      rcases hmm with hmm | hmm | hmm | hmm
      · rw [hmm, Nat.add_zero] at e; rw [← e] at k0 c0; rw [k0]; exact cell _ c0
      · rw [hmm] at e; rw [← e] at k1 c1; rw [k1]; exact cell _ c1
      · rw [hmm] at e; rw [← e] at k2 c2; rw [k2]; exact cell _ c2
      · rw [hmm] at e; rw [← e] at k3 c3; rw [k3]; exact cell _ c3
    · rw [if_neg ht, List.getElem?_eq_none (by rw [cellsA_len]; omega)]
theorem swk_pairs {w W : World} {g : Nat} {d0 d : Array A2} (S : SWK encA 4 w g 0 d W) (R : RowK encA 4 w g 0 d0) (hs : d.size = d0.size) {j : Nat} {x : A2} (hx : d[j]? = some x) : PairAt W g (j * 4) x := by
  have hj := (Array.getElem?_eq_some_iff.1 hx).1
  obtain ⟨x0, x1, x2, x3⟩ := x
  have := (swk_at S R hs j hj (getB_of hx)).1
  exact ⟨this.1, this.2.1, this.2.2.1, this.2.2.2⟩
end Go.Proofs.YtigmhbgdnmkooaaDoor

/- slices.Reverse at pairs. -/
namespace Go.Proofs.YtigmhbgdnmkooaaDoor
open Go Go.RowKit Go.Lib Go.Sort
set_option linter.unusedVariables false

theorem reverse_nil (p : Option Addr) (cap : Nat) (w : World) : Calls Tryd.prog 39 #[.slice p 0 cap] w fun e w' => e = .returned (.tuple #[]) ∧ w' = w := by
  go_enter Tryd.func39, Tryd.ntmps39
  go_wp2
  go_loopw [2, 3] (fun s t wr => s = .int .i64 0 ∧ t = .int .i64 (-1) ∧ wr = w) (fun _ _ _ => 0)
  case atStart => exact ⟨rfl, rfl, rfl⟩
  case round =>
    obtain ⟨rfl, rfl, rfl⟩ := hrel
    go_wp2
    go_end0
    exact ⟨rfl, rfl⟩
set_option maxHeartbeats 4000000 in
set_option maxRecDepth 1000000 in
theorem reverse_any (blk cap : Nat) (d : Array A2) (w : World) (R : RowK encA 4 w blk 0 d) (h0 : 0 < d.size) (hsz : d.size < 4611686018427387904) :
    Calls Tryd.prog 39 #[.slice (some ⟨blk, 0, none⟩) d.size cap] w fun e w' => e = .returned (.tuple #[]) ∧ SWK encA 4 w blk 0 d.reverse w' := by
  have S0 : Hid (SWK encA 4 w blk 0 d w) := SWK.start R.hH
  obtain ⟨n, hn⟩ : ∃ n, d.size = n := ⟨_, rfl⟩
  have HN : Hid (d.size = n) := hn
  rw [hn] at h0 hsz ⊢
  have HR : Hid (RowK encA 4 w blk 0 d) := R
  clear hn R
  go_enter Tryd.func39, Tryd.ntmps39
  go_wp2
  go_loopw [2, 3] (fun s t wr => ∃ (i u : Nat) (dk : Array A2), u < n ∧ s = .int .i64 i ∧ t = .int .i64 u ∧ Hid (SWK encA 4 w blk 0 dk wr ∧ dk.size = n ∧ reverseLoop i u dk = reverseLoop 0 (d.size - 1) d)) (fun s t _ => (RowKit.intOf t).toNat - (RowKit.intOf s).toNat)
  case atStart => exact ⟨0, n - 1, d, by omega, rfl, by rw [show ((n - 1 : Nat) : Int) = (n : Int) - 1 by omega], S0.out, HN.out, by rw [HN.out]⟩
  case round =>
    clear S0
    obtain ⟨l, u, dk, hu, rfl, rfl, H⟩ := hrel
    by_cases hlt : l < u
    · have hltI : (l : Int) < (u : Int) := by omega
      obtain ⟨⟨p0, p1, p2, p3⟩, hX⟩ : ∃ q, dk[l]! = q := ⟨_, rfl⟩
      obtain ⟨⟨q0, q1, q2, q3⟩, hY⟩ : ∃ q, dk[u]! = q := ⟨_, rfl⟩
      have HC6 := swk_at H.out.1 HR.out (by rw [H.out.2.1, HN.out]) l (by rw [H.out.2.1]; omega) hX
      have HD6 := swk_at H.out.1 HR.out (by rw [H.out.2.1, HN.out]) u (by rw [H.out.2.1]; omega) hY
      have HXY : Hid (dk[l]! = (p0, p1, p2, p3) ∧ dk[u]! = (q0, q1, q2, q3)) := ⟨hX, hY⟩
      have HD : Hid (dk.size = n) := H.out.2.1
      have HE : Hid (reverseLoop (l + 1) (u - 1) (swp dk l u) = reverseLoop 0 (d.size - 1) d) := by
        have := H.out.2.2
        rw [reverseLoop, if_pos hlt] at this
        exact this
      have S6 : Hid (SWK encA 4 w blk 0 dk wr) := H.out.1
      obtain ⟨⟨c0, c1, c2, c3⟩, f0, f1, f2, f3⟩ := HC6
      obtain ⟨⟨e0, e1, e2, e3⟩, g0, g1, g2, g3⟩ := HD6
      have bl : (l : Int) < (n : Int) := by omega
      have bu : (u : Int) < (n : Int) := by omega
      have b0 : (0 : Int) ≤ (l : Int) := by omega
      have b1 : (0 : Int) ≤ (u : Int) := by omega
      have n00 : ¬ l * 4 = u * 4 := by omega
      have m00 : ¬ u * 4 = l * 4 := by omega
      have n01 : ¬ l * 4 = u * 4 + 1 := by omega
      have m01 : ¬ u * 4 + 1 = l * 4 := by omega
      have n02 : ¬ l * 4 = u * 4 + 2 := by omega
      have m02 : ¬ u * 4 + 2 = l * 4 := by omega
      have n03 : ¬ l * 4 = u * 4 + 3 := by omega
      have m03 : ¬ u * 4 + 3 = l * 4 := by omega
      have n10 : ¬ l * 4 + 1 = u * 4 := by omega
      have m10 : ¬ u * 4 = l * 4 + 1 := by omega
      have n11 : ¬ l * 4 + 1 = u * 4 + 1 := by omega
      have m11 : ¬ u * 4 + 1 = l * 4 + 1 := by omega
      have n12 : ¬ l * 4 + 1 = u * 4 + 2 := by omega
      have m12 : ¬ u * 4 + 2 = l * 4 + 1 := by omega
      have n13 : ¬ l * 4 + 1 = u * 4 + 3 := by omega
      have m13 : ¬ u * 4 + 3 = l * 4 + 1 := by omega
      have n20 : ¬ l * 4 + 2 = u * 4 := by omega
      have m20 : ¬ u * 4 = l * 4 + 2 := by omega
      have n21 : ¬ l * 4 + 2 = u * 4 + 1 := by omega
      have m21 : ¬ u * 4 + 1 = l * 4 + 2 := by omega
      have n22 : ¬ l * 4 + 2 = u * 4 + 2 := by omega
      have m22 : ¬ u * 4 + 2 = l * 4 + 2 := by omega
      have n23 : ¬ l * 4 + 2 = u * 4 + 3 := by omega
      have m23 : ¬ u * 4 + 3 = l * 4 + 2 := by omega
      have n30 : ¬ l * 4 + 3 = u * 4 := by omega
      have m30 : ¬ u * 4 = l * 4 + 3 := by omega
      have n31 : ¬ l * 4 + 3 = u * 4 + 1 := by omega
      have m31 : ¬ u * 4 + 1 = l * 4 + 3 := by omega
      have n32 : ¬ l * 4 + 3 = u * 4 + 2 := by omega
      have m32 : ¬ u * 4 + 2 = l * 4 + 3 := by omega
      have n33 : ¬ l * 4 + 3 = u * 4 + 3 := by omega
      have m33 : ¬ u * 4 + 3 = l * 4 + 3 := by omega
      clear hX hY H hu
      go_wp2_with fail
      have S3 : Hid (SWK encA 4 w blk 0 (swp dk l u) (((((((((wr.setCell ⟨blk, l * 4, none⟩ (.string q0)).setCell ⟨blk, l * 4 + 1, none⟩ (.int .i64 q1)).setCell ⟨blk, l * 4 + 2, none⟩ (.int .i64 q2)).setCell ⟨blk, l * 4 + 3, none⟩ (.string q3)).setCell ⟨blk, u * 4, none⟩ (.string p0)).setCell ⟨blk, u * 4 + 1, none⟩ (.int .i64 p1)).setCell ⟨blk, u * 4 + 2, none⟩ (.int .i64 p2)).setCell ⟨blk, u * 4 + 3, none⟩ (.string p3)).drew)) := by
        have h := S6.out.swapped HR.out l u (by rw [HD.out]; omega) (by rw [HD.out]; omega)
        rw [HXY.out.1, HXY.out.2, Nat.zero_add, Nat.zero_add, setCells4, setCells4] at h
        simp only [setCell_drew]
        exact h
      go_big_region
      generalize ((((((((wr.setCell ⟨blk, l * 4, none⟩ (.string q0)).setCell ⟨blk, l * 4 + 1, none⟩ (.int .i64 q1)).setCell ⟨blk, l * 4 + 2, none⟩ (.int .i64 q2)).setCell ⟨blk, l * 4 + 3, none⟩ (.string q3)).setCell ⟨blk, u * 4, none⟩ (.string p0)).setCell ⟨blk, u * 4 + 1, none⟩ (.int .i64 p1)).setCell ⟨blk, u * 4 + 2, none⟩ (.int .i64 p2)).setCell ⟨blk, u * 4 + 3, none⟩ (.string p3)).drew = w5 at S3 ⊢
      go_wp2
      go_roundw
      case rel => exact ⟨l + 1, u - 1, _, by omega, by go_num, by rw [show ((u - 1 : Nat) : Int) = (u : Int) - 1 by omega], S3.out, by rw [size_swp]; exact HD.out, HE.out⟩
      case measure => simp [RowKit.intOf]; omega
    · have hltI : ¬ (l : Int) < (u : Int) := by omega
      have HS : Hid (SWK encA 4 w blk 0 d.reverse wr) := by
        have h := H.out.2.2
        rw [reverseLoop, if_neg hlt] at h
        have := H.out.1
        rw [h, Lib.reverseLoop_reverse] at this
        exact this
      clear H
      go_wp2
      go_end0
      exact ⟨rfl, HS.out⟩
end Go.Proofs.YtigmhbgdnmkooaaDoor

/- slices.CompactFunc at pairs, by their keys. -/
namespace Go.Proofs.YtigmhbgdnmkooaaDoor
open Go Go.RowKit Go.Lib Go.Sort
set_option linter.unusedVariables false

/-- clear of a slice of pairs that isn't empty: stores of zeroes from its place on. -/
theorem run_clear_at (w : World) (b o n c : Nat) (hn : 0 < n) (hc : ∀ j, j < n * 4 → (w.cell? ⟨b, o + j, none⟩).isSome = true) (hf : ∀ j, j < n * 4 → w.frozen? ⟨b, o + j, none⟩ = false) :
    ∃ zs : List Value, zs.length = n * 4 ∧ ∀ ty, (Builtin.clear_ #[22] ty #[.slice (some ⟨b, o, none⟩) n c]).run Tryd.prog w = .ok (.tuple #[]) (w.setCells b o zs) := by
  obtain ⟨i, z, hi, hz, hz1, hz2, hz3⟩ := infoAt
  have hv : ∀ w, (zeroValue 48).run Tryd.prog w = .ok (.agg #[.string ⟨#[]⟩, .int .i64 0, .int .i64 0, .string ⟨#[]⟩]) w := fun w => by kernel_rfl
  have hlen : (Builtin.zeroCells (Value.agg #[.string ⟨#[]⟩, .int .i64 0, .int .i64 0, .string ⟨#[]⟩]).cells n).toList.length = n * 4 := by
    simp [Builtin.zeroCells, Value.cells]
  have hone : ∀ v ∈ (Builtin.zeroCells (Value.agg #[.string ⟨#[]⟩, .int .i64 0, .int .i64 0, .string ⟨#[]⟩]).cells n).toList, v.oneCell' = true := fun v hv => by
    simp only [Builtin.zeroCells, Array.toList_map, List.mem_map] at hv
    obtain ⟨j, _, rfl⟩ := hv
    have : j % 4 = 0 ∨ j % 4 = 1 ∨ j % 4 = 2 ∨ j % 4 = 3 := by omega
    show ((#[.string ⟨#[]⟩, .int .i64 0, .int .i64 0, .string ⟨#[]⟩] : Array Value)[j % 4]!).oneCell' = true
    rcases this with h | h | h | h <;> (rw [h]; rfl)
  have hst := run_storeCells_cells (P := Tryd.prog) b o (Builtin.zeroCells (Value.agg #[.string ⟨#[]⟩, .int .i64 0, .int .i64 0, .string ⟨#[]⟩]).cells n).toList 0 w (fun c hc' => by rw [Nat.add_zero]; exact hc c (by omega)) (fun c hc' => by rw [Nat.add_zero]; exact hf c (by omega)) hone
  rw [Nat.add_zero] at hst
  refine ⟨_, hlen, fun ty => ?_⟩
  obtain ⟨m, rfl⟩ : ∃ m, n = m + 1 := ⟨n - 1, by omega⟩
  simp [Builtin.clear_, run_underlying Tryd.underlying22, hv, hst]
theorem out_setCells {lo hi : Nat} {w : World} {g : Nat} (h1 : lo ≤ g) (h2 : g < hi) : ∀ (vs : List Value) (o : Nat) (W : World), Out lo hi w W → Out lo hi w (W.setCells g o vs)
  | [], o, W, h => h
  | v :: r, o, W, h => out_setCells h1 h2 r (o + 1) _ (h.setCell g o v h1 h2)
theorem pair_setCells {W : World} {g j o : Nat} {vs : List Value} {x : A2} (h : PairAt W g (j * 4) x) (hj : j * 4 + 4 ≤ o) : PairAt (W.setCells g o vs) g (j * 4) x :=
  ⟨(World.cell?_setCells_out g vs o W ⟨g, _, none⟩ (fun _ _ => Or.inl (show j * 4 < o by omega))).trans h.c0, (World.cell?_setCells_out g vs o W ⟨g, _, none⟩ (fun _ _ => Or.inl (show j * 4 + 1 < o by omega))).trans h.c1, (World.cell?_setCells_out g vs o W ⟨g, _, none⟩ (fun _ _ => Or.inl (show j * 4 + 2 < o by omega))).trans h.c2, (World.cell?_setCells_out g vs o W ⟨g, _, none⟩ (fun _ _ => Or.inl (show j * 4 + 3 < o by omega))).trans h.c3⟩

theorem cell_aty {w : World} {g : Nat} {cur : Array Value} {e : TypeId} (h : w.heap[g]? = some (.cells cur e (0, 0))) (j : Nat) (hj : j < cur.size) : ∃ u, w.cell? ⟨g, j, none⟩ = some u :=
  ⟨cur[j], by simp [World.cell?, h, hj]⟩
theorem out_set4y {lo hi : Nat} {w W : World} (h : Out lo hi w W) {g : Nat} (h1 : lo ≤ g) (h2 : g < hi) (a b c d : Nat) (u0 u1 u2 u3 : Value) :
    Out lo hi w ((((W.setCell ⟨g, a, none⟩ u0).setCell ⟨g, b, none⟩ u1).setCell ⟨g, c, none⟩ u2).setCell ⟨g, d, none⟩ u3) :=
  (((h.setCell g a u0 h1 h2).setCell g b u1 h1 h2).setCell g c u2 h1 h2).setCell g d u3 h1 h2
theorem offs_ne {g a b : Nat} (h : a ≠ b) : (⟨g, a, none⟩ : Addr) ≠ ⟨g, b, none⟩ := fun e => h (congrArg Addr.off e)
theorem pair_set4_other {W : World} {g o j : Nat} {x : A2} (h : PairAt W g (j * 4) x) (hj : j * 4 + 4 ≤ o ∨ o + 4 ≤ j * 4) (u0 u1 u2 u3 : Value) : PairAt ((((W.setCell ⟨g, o, none⟩ u0).setCell ⟨g, o + 1, none⟩ u1).setCell ⟨g, o + 2, none⟩ u2).setCell ⟨g, o + 3, none⟩ u3) g (j * 4) x := by
  have c : ∀ i, i < 4 → ((((W.setCell ⟨g, o, none⟩ u0).setCell ⟨g, o + 1, none⟩ u1).setCell ⟨g, o + 2, none⟩ u2).setCell ⟨g, o + 3, none⟩ u3).cell? ⟨g, j * 4 + i, none⟩ = W.cell? ⟨g, j * 4 + i, none⟩ := fun i hi => by
    rw [World.cell?_setCell_other _ _ _ _ (offs_ne (by omega)), World.cell?_setCell_other _ _ _ _ (offs_ne (by omega)), World.cell?_setCell_other _ _ _ _ (offs_ne (by omega)), World.cell?_setCell_other _ _ _ _ (offs_ne (by omega))]
  exact ⟨(c 0 (by omega)).trans h.c0, (c 1 (by omega)).trans h.c1, (c 2 (by omega)).trans h.c2, (c 3 (by omega)).trans h.c3⟩
theorem pair_set4_same {W : World} {g o : Nat} {e0 e1 e2 e3 : Value} (h0 : W.cell? ⟨g, o, none⟩ = some e0) (h1 : W.cell? ⟨g, o + 1, none⟩ = some e1) (h2 : W.cell? ⟨g, o + 2, none⟩ = some e2) (h3 : W.cell? ⟨g, o + 3, none⟩ = some e3) (x : A2) :
    PairAt ((((W.setCell ⟨g, o, none⟩ (.string x.1)).setCell ⟨g, o + 1, none⟩ (.int .i64 x.2.1)).setCell ⟨g, o + 2, none⟩ (.int .i64 x.2.2.1)).setCell ⟨g, o + 3, none⟩ (.string x.2.2.2)) g o x := by
  refine ⟨?_, ?_, ?_, ?_⟩
  · rw [World.cell?_setCell_other _ _ _ _ (offs_ne (by omega)), World.cell?_setCell_other _ _ _ _ (offs_ne (by omega)), World.cell?_setCell_other _ _ _ _ (offs_ne (by omega)), World.cell?_setCell_same' _ _ _ (by rw [h0]; rfl)]
  · rw [World.cell?_setCell_other _ _ _ _ (offs_ne (by omega)), World.cell?_setCell_other _ _ _ _ (offs_ne (by omega)), World.cell?_setCell_same' _ _ _ (by rw [World.cell?_setCell_other _ _ _ _ (offs_ne (by omega)), h1]; rfl)]
  · rw [World.cell?_setCell_other _ _ _ _ (offs_ne (by omega)), World.cell?_setCell_same' _ _ _ (by rw [World.cell?_setCell_other _ _ _ _ (offs_ne (by omega)), World.cell?_setCell_other _ _ _ _ (offs_ne (by omega)), h2]; rfl)]
  · rw [World.cell?_setCell_same' _ _ _ (by rw [World.cell?_setCell_other _ _ _ _ (offs_ne (by omega)), World.cell?_setCell_other _ _ _ _ (offs_ne (by omega)), World.cell?_setCell_other _ _ _ _ (offs_ne (by omega)), h3]; rfl)]
/-- A list's pairs, one behind the other from a block's head on. -/
def PairsAt (w : World) (g : Nat) (L : List A2) : Prop := ∀ j x, L[j]? = some x → PairAt w g (j * 4) x
theorem compact_few (p : Option Addr) (n cap : Nat) (w : World) (hn : n < 2) : Calls Tryd.prog 42 #[.slice p n cap, .func (.func 43) #[] #[]] w fun e w' => e = .returned (.slice p n cap) ∧ w' = w := by
  have hnI : (n : Int) < 2 := by omega
  go_enter Tryd.func42, Tryd.ntmps42
  go_wp2
  go_ret
  exact ⟨rfl, rfl⟩
set_option maxHeartbeats 4000000 in
set_option maxRecDepth 1000000 in
theorem compact_any (g n cap : Nat) (L : List A2) (w : World) (hL : L.length = n) (hcap : n ≤ cap) (hn : 2 ≤ n) (hsz : n < 4611686018427387904) (hb : ∃ cur : Array Value, w.heap[g]? = some (.cells cur 48 (0, 0)) ∧ n * 4 ≤ cur.size) (hc : PairsAt w g L) :
    Calls Tryd.prog 42 #[.slice (some ⟨g, 0, none⟩) n cap, .func (.func 43) #[] #[]] w fun e w' => e = .returned (.slice (some ⟨g, 0, none⟩) (firsts L).length cap) ∧ Out g (g + 1) w w' ∧ PairsAt w' g (firsts L) := by
  have cK : Hid (∀ (x y : A2) (W : World), Calls Tryd.prog 43 #[atV x, atV y] W fun e w' => e = .returned (.bool (decide (x.1 = y.1))) ∧ Below W.heap.size W w') := fun x y W => (sameKey_any x y W).mono fun e w' ⟨h1, h2⟩ => ⟨h1, by rw [h2]; exact ((Below.refl _ _).alloc (Nat.le_refl _) _).alloc (by rw [World.size_alloc]; omega) _⟩
  have HB : Hid ((∃ cur : Array Value, w.heap[g]? = some (.cells cur 48 (0, 0)) ∧ n * 4 ≤ cur.size) ∧ g < w.heap.size) := ⟨hb, by obtain ⟨cur, h, _⟩ := hb; exact (Array.getElem?_eq_some_iff.1 h).1⟩
  have HC : Hid (PairsAt w g L) := hc
  have HL : Hid (L.length = n) := hL
  have hnI : ¬ (n : Int) < 2 := by omega
  have hnB : decide ((n : Int) < 2) = false := decide_eq_false hnI
  have eg := enters_of Tryd.func43 (by kernel_rfl) rfl
  clear hb hc hL
  go_enter Tryd.func42, Tryd.ntmps42
  go_wp2
  clear hnI hnB
  go_loopw [5] (fun s wr => ∃ (k : Nat), 1 ≤ k ∧ k ≤ n ∧ s = .int .i64 (k : Int) ∧ Below w.heap.size w wr ∧ Hid (firsts (L.take k) = L.take k)) (fun s _ => n - (RowKit.intOf s).toNat)
  case atStart => exact ⟨1, Nat.le_refl _, by omega, rfl, Below.refl _ _, by
    show firsts (L.take 1) = L.take 1
    cases hl : L with
    | nil => rw [List.take_nil, firsts]
    | cons a t => rw [List.take_succ_cons, List.take_zero, firsts]⟩
  case round =>
    obtain ⟨k, hk1, hkn, rfl, hbw, HF⟩ := hrel
    by_cases hlt : k < n
    · have hltI : (k : Int) < (n : Int) := by omega
      obtain ⟨l, hl⟩ : ∃ l, k = l + 1 := ⟨k - 1, by omega⟩
      have HU : Hid (k = l + 1) := hl
      obtain ⟨⟨y0, y1, y2, y3⟩, hy⟩ : ∃ q, L[l]? = some q := ⟨_, List.getElem?_eq_getElem (by rw [HL.out]; omega)⟩
      obtain ⟨⟨x0, x1, x2, x3⟩, hx⟩ : ∃ q, L[k]? = some q := ⟨_, List.getElem?_eq_getElem (by rw [HL.out]; omega)⟩
      have HXY : Hid (L[l]? = some (y0, y1, y2, y3) ∧ L[k]? = some (x0, x1, x2, x3)) := ⟨hy, hx⟩
      have HX : Hid (∀ w', Below w.heap.size w w' → (w'.cell? ⟨g, k * 4, none⟩ = some (.string x0) ∧ w'.cell? ⟨g, k * 4 + 1, none⟩ = some (.int .i64 x1) ∧ w'.cell? ⟨g, k * 4 + 2, none⟩ = some (.int .i64 x2) ∧ w'.cell? ⟨g, k * 4 + 3, none⟩ = some (.string x3) ∧ w'.cell? ⟨g, l * 4, none⟩ = some (.string y0) ∧ w'.cell? ⟨g, l * 4 + 1, none⟩ = some (.int .i64 y1) ∧ w'.cell? ⟨g, l * 4 + 2, none⟩ = some (.int .i64 y2) ∧ w'.cell? ⟨g, l * 4 + 3, none⟩ = some (.string y3))) := fun w' hw => by
        obtain ⟨a0, a1, a2, a3⟩ := (HC.out _ _ hx).below hw
        obtain ⟨a4, a5, a6, a7⟩ := (HC.out _ _ hy).below hw
        exact ⟨a0, a1, a2, a3, a4, a5, a6, a7⟩
      have cS : ∀ W, Below w.heap.size w W → Calls Tryd.prog 43 #[atV (x0, x1, x2, x3), atV (y0, y1, y2, y3)] W fun e w' => e = .returned (.bool (decide (x0 = y0))) ∧ Below w.heap.size w w' := fun W hW => (cK.out (x0, x1, x2, x3) (y0, y1, y2, y3) W).mono fun e w' ⟨h1, h2⟩ => ⟨h1, hW.trans (h2.mono hW.size)⟩
      obtain ⟨c0, c1, c2, c3, e0, e1, e2, e3⟩ := HX.out _ hbw
      have b1 : (0 : Int) ≤ (k : Int) := by omega
      have ew : IntKind.i64.wrap ((k : Int) - 1) = (k : Int) - 1 := by rw [IntKind.wrap_i64]; omega
      have en : ((k : Int) - 1).toNat = l := by omega
      have b2 : (1 : Int) ≤ (k : Int) := by omega
      have b3 : (0 : Int) ≤ (k : Int) - 1 := by omega
      have b4 : (k : Int) - 1 < (n : Int) := by omega
      clear hy hx hl
      by_cases hk : x0 = y0
      · subst hk
        simp only [decide_true] at cS
        have hcn : ¬ cap = k := by omega
        have b5 : (k : Int) ≤ (n : Int) := by omega
        have b6 : (k : Int) ≤ (cap : Int) := by omega
        have b7 : (n : Int) ≤ (cap : Int) := by omega
        go_wp2_with fail
        go_region_held3 (fun w' => (w'.cell? ⟨g, k * 4, none⟩ = some (.string x0) ∧ w'.cell? ⟨g, k * 4 + 1, none⟩ = some (.int .i64 x1) ∧ w'.cell? ⟨g, k * 4 + 2, none⟩ = some (.int .i64 x2) ∧ w'.cell? ⟨g, k * 4 + 3, none⟩ = some (.string x3) ∧ w'.cell? ⟨g, l * 4, none⟩ = some (.string x0) ∧ w'.cell? ⟨g, l * 4 + 1, none⟩ = some (.int .i64 y1) ∧ w'.cell? ⟨g, l * 4 + 2, none⟩ = some (.int .i64 y2) ∧ w'.cell? ⟨g, l * 4 + 3, none⟩ = some (.string y3)) ∧ Below w.heap.size w w')
          (exact ⟨by first | (with_reducible assumption) | (simp [*]; done), by first | (with_reducible assumption) | exact hbw.drew⟩)
          (first | (go_at_call 43; refine (cS _ ?_).mono ?_; (· first | assumption | (apply And.right; assumption)); rintro r1 w3 ⟨rfl, s3⟩; have mm := HX.out _ s3))
        clear c0 c1 c2 c3 e0 e1 e2 e3 mm
        go_wp2_with fail
        have HF2 : Hid ((firsts (L.take (k + 1))).length = k ∧ firsts (L.take (k + 1)) = L.take k) := by
          obtain ⟨h1, h2⟩ := HXY.out
          have h3 := HF.out
          have hu := HU.out
          have h4 : firsts (L.take (k + 1)) = L.take k := by
            rw [hu] at h2 h3 ⊢
            rw [firsts_take h1 h2, if_pos rfl, h3, List.append_nil]
          exact ⟨by rw [h4, List.length_take, HL.out]; omega, h4⟩
        have HS3 : Hid (Below w.heap.size w w3) := s3
        clear HF s3 cS hcn b5 b6 ew en b2 b3 b4
        go_loopw [5, 7] (fun s t wr => ∃ (kk k2 : Nat), 1 ≤ k2 ∧ k + k2 ≤ n ∧ kk < k + k2 ∧ s = .int .i64 (kk : Int) ∧ t = .int .i64 (k2 : Int) ∧ Hid (Out g (g + 1) w wr ∧ (firsts (L.take (k + k2))).length = kk ∧ PairsAt wr g (firsts (L.take (k + k2))) ∧ ∀ j x, k + k2 ≤ j + 1 → L[j]? = some x → PairAt wr g (j * 4) x)) (fun _ t _ => n - (RowKit.intOf t).toNat)
        case atStart =>
          refine ⟨k, 1, Nat.le_refl _, by omega, by omega, rfl, rfl, Out.of_below HS3.out, HF2.out.1, ?_, fun j x _ hx => (HC.out j x hx).below HS3.out⟩
          rw [HF2.out.2]
          intro j x hx
          have hj := (List.getElem?_eq_some_iff.1 hx).1
          rw [List.length_take] at hj
          rw [List.getElem?_take_of_lt (by omega)] at hx
          exact (HC.out j x hx).below HS3.out
        case round =>
          obtain ⟨kk, k2, h21, h2n, hkk, rfl, rfl, H⟩ := hrel
          have b7 : ((n - k : Nat) : Int) = (n : Int) - (k : Int) := by omega
          by_cases hlt2 : k + k2 < n
          · have hltI2 : (k2 : Int) < ((n - k : Nat) : Int) := by omega
            obtain ⟨l2, hl2⟩ : ∃ l2, k2 = l2 + 1 := ⟨k2 - 1, by omega⟩
            have HU2 : Hid (k2 = l2 + 1) := hl2
            obtain ⟨⟨z0, z1, z2, z3⟩, hz⟩ : ∃ q, L[k + k2]? = some q := ⟨_, List.getElem?_eq_getElem (by rw [HL.out]; omega)⟩
            obtain ⟨⟨v0, v1, v2, v3⟩, hv⟩ : ∃ q, L[k + l2]? = some q := ⟨_, List.getElem?_eq_getElem (by rw [HL.out]; omega)⟩
            have HZV : Hid (L[k + k2]? = some (z0, z1, z2, z3) ∧ L[k + l2]? = some (v0, v1, v2, v3)) := ⟨hz, hv⟩
            have hat := H.out.2.2.2 _ _ (by omega) hz
            have hbt := H.out.2.2.2 _ _ (by omega) hv
            rw [show (k + k2) * 4 = k * 4 + k2 * 4 by omega] at hat
            rw [show (k + l2) * 4 = k * 4 + l2 * 4 by omega] at hbt
            have HX2 : Hid (∀ w', Below wr.heap.size wr w' → (w'.cell? ⟨g, k * 4 + k2 * 4, none⟩ = some (.string z0) ∧ w'.cell? ⟨g, k * 4 + k2 * 4 + 1, none⟩ = some (.int .i64 z1) ∧ w'.cell? ⟨g, k * 4 + k2 * 4 + 2, none⟩ = some (.int .i64 z2) ∧ w'.cell? ⟨g, k * 4 + k2 * 4 + 3, none⟩ = some (.string z3) ∧ w'.cell? ⟨g, k * 4 + l2 * 4, none⟩ = some (.string v0) ∧ w'.cell? ⟨g, k * 4 + l2 * 4 + 1, none⟩ = some (.int .i64 v1) ∧ w'.cell? ⟨g, k * 4 + l2 * 4 + 2, none⟩ = some (.int .i64 v2) ∧ w'.cell? ⟨g, k * 4 + l2 * 4 + 3, none⟩ = some (.string v3))) := fun w' hw => by
              obtain ⟨a0, a1, a2, a3⟩ := hat.below hw
              obtain ⟨a4, a5, a6, a7⟩ := hbt.below hw
              exact ⟨a0, a1, a2, a3, a4, a5, a6, a7⟩
            have cS : ∀ W, Below wr.heap.size wr W → Calls Tryd.prog 43 #[atV (z0, z1, z2, z3), atV (v0, v1, v2, v3)] W fun e w' => e = .returned (.bool (decide (z0 = v0))) ∧ Below wr.heap.size wr w' := fun W hW => (cK.out (z0, z1, z2, z3) (v0, v1, v2, v3) W).mono fun e w' ⟨h1, h2⟩ => ⟨h1, hW.trans (h2.mono hW.size)⟩
            obtain ⟨c0, c1, c2, c3, e0, e1, e2, e3⟩ := HX2.out _ (Below.refl _ _)
            have b1' : (0 : Int) ≤ (k2 : Int) := by omega
            have ew : IntKind.i64.wrap ((k2 : Int) - 1) = (k2 : Int) - 1 := by rw [IntKind.wrap_i64]; omega
            have en : ((k2 : Int) - 1).toNat = l2 := by omega
            have b2 : (1 : Int) ≤ (k2 : Int) := by omega
            have b3 : (0 : Int) ≤ (k2 : Int) - 1 := by omega
            have b4 : (k2 : Int) - 1 < ((n - k : Nat) : Int) := by omega
            have hw0 : Below wr.heap.size wr wr.drew := (Below.refl wr.heap.size wr).drew
            clear hz hv hl2 hat hbt b7
            by_cases hk : z0 = v0
            · subst hk
              simp only [decide_true] at cS
              have HF3 : Hid (firsts (L.take (k + (k2 + 1))) = firsts (L.take (k + k2))) := by
                obtain ⟨h1, h2⟩ := HZV.out
                have hu := HU2.out
                show _ = _
                rw [hu] at h1 ⊢
                rw [show k + (l2 + 1 + 1) = (k + l2) + 2 by omega, firsts_take h2 h1, if_pos rfl, List.append_nil]
                rfl
              go_wp2_with fail
              go_region_held3 (fun w' => (w'.cell? ⟨g, k * 4 + k2 * 4, none⟩ = some (.string z0) ∧ w'.cell? ⟨g, k * 4 + k2 * 4 + 1, none⟩ = some (.int .i64 z1) ∧ w'.cell? ⟨g, k * 4 + k2 * 4 + 2, none⟩ = some (.int .i64 z2) ∧ w'.cell? ⟨g, k * 4 + k2 * 4 + 3, none⟩ = some (.string z3) ∧ w'.cell? ⟨g, k * 4 + l2 * 4, none⟩ = some (.string z0) ∧ w'.cell? ⟨g, k * 4 + l2 * 4 + 1, none⟩ = some (.int .i64 v1) ∧ w'.cell? ⟨g, k * 4 + l2 * 4 + 2, none⟩ = some (.int .i64 v2) ∧ w'.cell? ⟨g, k * 4 + l2 * 4 + 3, none⟩ = some (.string v3)) ∧ Below wr.heap.size wr w')
                (exact ⟨by first | (with_reducible assumption) | (simp [*]; done), by first | (with_reducible assumption)⟩)
                (first | (go_at_call 43; refine (cS _ ?_).mono ?_; (· first | assumption | (apply And.right; assumption)); rintro r1 w4 ⟨rfl, s4⟩; have mm := HX2.out _ s4))
              clear c0 c1 c2 c3 e0 e1 e2 e3 mm
              go_wp2
              go_roundw
              case rel => exact ⟨kk, k2 + 1, by omega, by omega, by omega, rfl, by go_num, H.out.1.trans (Out.of_below s4), by rw [HF3.out]; exact H.out.2.1, by rw [HF3.out]; exact fun j x hx => (H.out.2.2.1 j x hx).below s4, fun j x hj hx => (H.out.2.2.2 j x (by omega) hx).below s4⟩
              case measure => simp [RowKit.intOf]; omega
            · have hkD : decide (z0 = v0) = false := decide_eq_false hk
              rw [hkD] at cS
              have HF3 : Hid (firsts (L.take (k + (k2 + 1))) = firsts (L.take (k + k2)) ++ [(z0, z1, z2, z3)]) := by
                obtain ⟨h1, h2⟩ := HZV.out
                have hu := HU2.out
                show _ = _
                rw [hu] at h1 ⊢
                rw [show k + (l2 + 1 + 1) = (k + l2) + 2 by omega, firsts_take h2 h1, if_neg hk]
                rfl
              go_wp2_with fail
              go_region_held3 (fun w' => (w'.cell? ⟨g, k * 4 + k2 * 4, none⟩ = some (.string z0) ∧ w'.cell? ⟨g, k * 4 + k2 * 4 + 1, none⟩ = some (.int .i64 z1) ∧ w'.cell? ⟨g, k * 4 + k2 * 4 + 2, none⟩ = some (.int .i64 z2) ∧ w'.cell? ⟨g, k * 4 + k2 * 4 + 3, none⟩ = some (.string z3) ∧ w'.cell? ⟨g, k * 4 + l2 * 4, none⟩ = some (.string v0) ∧ w'.cell? ⟨g, k * 4 + l2 * 4 + 1, none⟩ = some (.int .i64 v1) ∧ w'.cell? ⟨g, k * 4 + l2 * 4 + 2, none⟩ = some (.int .i64 v2) ∧ w'.cell? ⟨g, k * 4 + l2 * 4 + 3, none⟩ = some (.string v3)) ∧ Below wr.heap.size wr w')
                (exact ⟨by first | (with_reducible assumption) | (simp [*]; done), by first | (with_reducible assumption)⟩)
                (first | (go_at_call 43; refine (cS _ ?_).mono ?_; (· first | assumption | (apply And.right; assumption)); rintro r1 w4 ⟨rfl, s4⟩; have mm := HX2.out _ s4))
              clear c0 c1 c2 c3 e0 e1 e2 e3 mm
              obtain ⟨c0, c1, c2, c3, -, -, -, -⟩ := HX2.out _ s4
              have fr : ∀ i, i < n * 4 → (∃ u, w4.cell? ⟨g, i, none⟩ = some u) ∧ w4.frozen? ⟨g, i, none⟩ = false := fun i hi => by
                obtain ⟨⟨cur, h1, h2⟩, _⟩ := HB.out
                obtain ⟨cur', h3, h4⟩ := (H.out.1.trans (Out.of_below s4)).shape g cur _ _ h1 (by omega)
                exact ⟨cell_aty h3 i (by omega), frozen_of_row w4 g i cur' _ h3⟩
              obtain ⟨⟨u0, e0⟩, f0⟩ := fr (kk * 4) (by omega)
              obtain ⟨⟨u1, e1⟩, f1⟩ := fr (kk * 4 + 1) (by omega)
              obtain ⟨⟨u2, e2⟩, f2⟩ := fr (kk * 4 + 2) (by omega)
              obtain ⟨⟨u3', e3⟩, f3⟩ := fr (kk * 4 + 3) (by omega)
              have HE : Hid (w4.cell? ⟨g, kk * 4, none⟩ = some u0 ∧ w4.cell? ⟨g, kk * 4 + 1, none⟩ = some u1 ∧ w4.cell? ⟨g, kk * 4 + 2, none⟩ = some u2 ∧ w4.cell? ⟨g, kk * 4 + 3, none⟩ = some u3') := ⟨e0, e1, e2, e3⟩
              have b8 : (kk : Int) < (n : Int) := by omega
              have b9 : (0 : Int) ≤ (kk : Int) := by omega
              clear fr
              go_wp2
              go_roundw
              case rel =>
                refine ⟨kk + 1, k2 + 1, by omega, by omega, by omega, by go_num, by go_num, out_set4y (H.out.1.trans (Out.of_below s4)) (Nat.le_refl _) (by omega) _ _ _ _ _ _ _ _, by rw [HF3.out, List.length_append, H.out.2.1]; rfl, ?_, fun j x hj hx => pair_set4_other ((H.out.2.2.2 j x (by omega) hx).below s4) (Or.inr (by omega)) _ _ _ _⟩
                rw [HF3.out]
                intro j x hx
                by_cases hj : j < kk
                · rw [List.getElem?_append_left (by rw [H.out.2.1]; exact hj)] at hx
                  exact pair_set4_other ((H.out.2.2.1 j x hx).below s4) (Or.inl (by omega)) _ _ _ _
                · have h5 := (List.getElem?_eq_some_iff.1 hx).1
                  rw [List.length_append, H.out.2.1, List.length_singleton] at h5
                  obtain rfl : j = kk := by omega
                  rw [List.getElem?_append_right (by rw [H.out.2.1]; exact Nat.le_refl _), H.out.2.1, Nat.sub_self] at hx
                  obtain rfl : (z0, z1, z2, z3) = x := by simpa using hx
                  exact pair_set4_same HE.out.1 HE.out.2.1 HE.out.2.2.1 HE.out.2.2.2 (z0, z1, z2, z3)
              case measure => simp [RowKit.intOf]; omega
          · have hltI2 : ¬ (k2 : Int) < ((n - k : Nat) : Int) := by omega
            have HE : Hid (firsts (L.take (k + k2)) = firsts L) := by
              show _ = _
              rw [List.take_of_length_le (by rw [HL.out]; omega)]
            obtain ⟨zs, hzs, hcl⟩ := run_clear_at wr g (kk * 4) (n - kk) (cap - kk) (by omega) (fun j hj => by
              obtain ⟨⟨cur, h1, h2⟩, _⟩ := HB.out
              obtain ⟨cur', h3, h4⟩ := H.out.1.shape g cur _ _ h1 (by omega)
              obtain ⟨u, hu⟩ := cell_aty h3 (kk * 4 + j) (by omega)
              rw [hu]; rfl) (fun j hj => by
              obtain ⟨⟨cur, h1, h2⟩, _⟩ := HB.out
              obtain ⟨cur', h3, h4⟩ := H.out.1.shape g cur _ _ h1 (by omega)
              exact frozen_of_row wr g (kk * 4 + j) cur' _ h3)
            have hcn : ¬ cap = kk := by omega
            have b5 : (kk : Int) ≤ (n : Int) := by omega
            have b6 : (kk : Int) ≤ (cap : Int) := by omega
            have b7' : (n : Int) ≤ (cap : Int) := by omega
            have b9 : (0 : Int) ≤ (kk : Int) := by omega
            clear hzs b7
            go_wp2
            go_ret
            have hlen := H.out.2.1
            rw [HE.out] at hlen
            refine ⟨by rw [hlen]; rfl, out_setCells (Nat.le_refl _) (by omega) _ _ _ H.out.1, fun j x hx => ?_⟩
            have hj := (List.getElem?_eq_some_iff.1 hx).1
            exact pair_setCells (H.out.2.2.1 j x (by rw [HE.out]; exact hx)) (by omega)
      · have hkD : decide (x0 = y0) = false := decide_eq_false hk
        rw [hkD] at cS
        have HF2 : Hid (firsts (L.take (k + 1)) = L.take (k + 1)) := by
          obtain ⟨h1, h2⟩ := HXY.out
          show firsts _ = _
          rw [HU.out] at h2 ⊢
          have h3 := HF.out
          rw [HU.out] at h3
          rw [firsts_take h1 h2, if_neg hk, h3, List.take_add_one (i := l + 1), h2]
          rfl
        clear HF
        go_wp2_with fail
        go_region_held3 (fun w' => (w'.cell? ⟨g, k * 4, none⟩ = some (.string x0) ∧ w'.cell? ⟨g, k * 4 + 1, none⟩ = some (.int .i64 x1) ∧ w'.cell? ⟨g, k * 4 + 2, none⟩ = some (.int .i64 x2) ∧ w'.cell? ⟨g, k * 4 + 3, none⟩ = some (.string x3) ∧ w'.cell? ⟨g, l * 4, none⟩ = some (.string y0) ∧ w'.cell? ⟨g, l * 4 + 1, none⟩ = some (.int .i64 y1) ∧ w'.cell? ⟨g, l * 4 + 2, none⟩ = some (.int .i64 y2) ∧ w'.cell? ⟨g, l * 4 + 3, none⟩ = some (.string y3)) ∧ Below w.heap.size w w')
          (exact ⟨by first | (with_reducible assumption) | (simp [*]; done), by first | (with_reducible assumption) | exact hbw.drew⟩)
          (first | (go_at_call 43; refine (cS _ ?_).mono ?_; (· first | assumption | (apply And.right; assumption)); rintro r1 w3 ⟨rfl, s3⟩; have mm := HX.out _ s3))
        clear c0 c1 c2 c3 e0 e1 e2 e3 mm
        go_wp2
        go_roundw
        case rel => exact ⟨k + 1, by omega, by omega, by go_num, s3, HF2.out⟩
        case measure => simp [RowKit.intOf]; omega
    · have hltI : ¬ (k : Int) < (n : Int) := by omega
      have HE : Hid (firsts L = L) := by
        have := HF.out
        rw [List.take_of_length_le (by rw [HL.out]; omega)] at this
        exact this
      clear HF
      go_wp2
      go_ret
      rw [HE.out]
      exact ⟨by rw [HL.out]; rfl, Out.of_below hbw, fun j x hx => (HC.out j x hx).below hbw⟩
end Go.Proofs.YtigmhbgdnmkooaaDoor

/- Reverse, SortStableFunc, CompactFunc of a row of the call's own. -/
namespace Go.Proofs.YtigmhbgdnmkooaaDoor
open Go Go.RowKit Go.Lib Go.Sort
set_option linter.unusedVariables false

theorem byK : ByK := fun x y w0 blk d W S => (byKey_any x y W).mono fun e w' ⟨h1, h2⟩ => ⟨h1, by rw [h2]; exact (S.alloc _).alloc _⟩
theorem insertion_nil (p : Option Addr) (cap : Nat) (w : World) : Calls Tryd.prog 77 #[.slice p 0 cap, .int .i64 0, .int .i64 0, .func (.func 41) #[] #[]] w fun e w' => e = .returned (.tuple #[]) ∧ w' = w := by
  go_enter Tryd.func77, Tryd.ntmps77
  go_wp2
  go_loopw [8, 9] (fun s _ wr => s = .int .i64 1 ∧ wr = w) (fun _ _ _ => 0)
  case atStart => exact ⟨rfl, rfl⟩
  case round =>
    obtain ⟨rfl, rfl⟩ := hrel
    go_wp2
    go_end0
    exact ⟨rfl, rfl⟩
theorem stable_nil (p : Option Addr) (cap : Nat) (w : World) : Calls Tryd.prog 69 #[.slice p 0 cap, .int .i64 0, .func (.func 41) #[] #[]] w fun e w' => e = .returned (.tuple #[]) ∧ w' = w := by
  have c := insertion_nil p cap w
  go_enter Tryd.func69, Tryd.ntmps69
  go_wp2
  go_loopw [7, 8] (fun x y wr => x = .int .i64 0 ∧ y = .int .i64 20 ∧ wr = w) (fun _ _ _ => 0)
  case atStart => exact ⟨rfl, rfl, rfl⟩
  case round =>
    obtain ⟨rfl, rfl, rfl⟩ := hrel
    go_wp2_with fail
    refine c.mono ?_; rintro r w2 ⟨rfl, rfl⟩
    go_wp2_with fail
    go_loopw [6, 7, 8, 9] (fun x _ _ _ wr => x = .int .i64 20 ∧ wr = w2) (fun _ _ _ _ _ => 0)
    case atStart => exact ⟨rfl, rfl⟩
    case round =>
      obtain ⟨rfl, rfl⟩ := hrel
      go_wp2
      go_end0
      exact ⟨rfl, rfl⟩
theorem sortStable_nil (p : Option Addr) (cap : Nat) (w : World) : Calls Tryd.prog 40 #[.slice p 0 cap, .func (.func 41) #[] #[]] w fun e w' => e = .returned (.tuple #[]) ∧ w' = w := by
  have c := stable_nil p cap w
  go_enter Tryd.func40, Tryd.ntmps40
  go_wp2_with fail
  refine c.mono ?_; rintro r w2 ⟨rfl, rfl⟩
  go_wp2
  go_end0
  exact ⟨rfl, rfl⟩
theorem own_some {w : World} {B n c : Nat} {p : Option Addr} {L : List A2} (h : OwnA w B (.slice p n c) L) (h0 : 0 < n) : ∃ g, p = some ⟨g, 0, none⟩ := by
  rcases h.2 with ⟨h1, h2⟩ | ⟨g, cap, cur, h1, _⟩
  · simp only [Value.slice.injEq] at h1; omega
  · simp only [Value.slice.injEq] at h1; exact ⟨g, h1.1⟩
theorem own_len {w : World} {B n c : Nat} {p : Option Addr} {L : List A2} (h : OwnA w B (.slice p n c) L) : L.length = n := by
  rcases h.2 with ⟨h1, h2⟩ | ⟨g, cap, cur, h1, _⟩
  · simp only [Value.slice.injEq] at h1; omega
  · simp only [Value.slice.injEq] at h1; exact h1.2.1.symm
theorem reverse_own {w : World} {B n c : Nat} {p : Option Addr} {L : List A2} (h : OwnA w B (.slice p n c) L) (hl : n ≤ 1048576) :
    Calls Tryd.prog 39 #[.slice p n c] w fun e w' => e = .returned (.tuple #[]) ∧ OwnA w' B (.slice p n c) L.reverse ∧ Below B w w' := by
  have hL := own_len h
  rcases Nat.eq_zero_or_pos n with h0 | h0
  · subst h0
    obtain rfl : L = [] := List.eq_nil_of_length_eq_zero hL
    exact (reverse_nil p c w).mono fun e w' ⟨h1, h2⟩ => ⟨h1, by rw [h2]; exact h, by rw [h2]; exact Below.refl _ _⟩
  · obtain ⟨g, rfl⟩ := own_some h h0
    have R := rowK_own h
    obtain ⟨_, _, hg, hB, _, _⟩ := own_pairs h
    have := reverse_any g c L.toArray w R (by simp; omega) (by simp; omega)
    rw [show L.toArray.size = n by simpa using hL] at this
    exact this.mono fun e w' ⟨h1, h2⟩ => ⟨h1, own_out h (out_of_swk h2) (by rw [List.length_reverse, hL]) (Nat.le_refl _) (fun j x hx => swk_pairs h2 R (by simp) (by simpa using hx)), ((out_of_swk h2).below (Nat.le_of_lt hg)).mono hB⟩
theorem sort_own {w : World} {B n c : Nat} {p : Option Addr} {L : List A2} (h : OwnA w B (.slice p n c) L) (hl : n ≤ 1048576) :
    Calls Tryd.prog 40 #[.slice p n c, .func (.func 41) #[] #[]] w fun e w' => e = .returned (.tuple #[]) ∧ (∃ M, OwnA w' B (.slice p n c) M ∧ SL L M ∧ Srt M) ∧ Below B w w' := by
  have hL := own_len h
  rcases Nat.eq_zero_or_pos n with h0 | h0
  · subst h0
    obtain rfl : L = [] := List.eq_nil_of_length_eq_zero hL
    exact (sortStable_nil p c w).mono fun e w' ⟨h1, h2⟩ => ⟨h1, ⟨[], by rw [h2]; exact h, SL.refl _, List.Pairwise.nil⟩, by rw [h2]; exact Below.refl _ _⟩
  · obtain ⟨g, rfl⟩ := own_some h h0
    have R := rowK_own h
    obtain ⟨_, _, hg, hB, _, _⟩ := own_pairs h
    have hz : L.toArray.size = n := by simpa using hL
    exact (sortStable_any byK n g c L.toArray w R hz (SWK.start R.hH) (by omega)).mono fun e w' ⟨h1, d', h2, h3, h4, h5⟩ => by
      have e1 : sg L.toArray 0 n = L := by rw [← hz, sg_toList]
      have e2 : sg d' 0 n = d'.toList := by rw [← h3, sg_toList]
      rw [e1, e2] at h4
      rw [e2] at h5
      exact ⟨h1, ⟨d'.toList, own_out h (out_of_swk h2) (by simpa using h3) (Nat.le_refl _) (fun j x hx => swk_pairs h2 R (by rw [h3, hz]) (by simpa using hx)), h4, h5⟩, ((out_of_swk h2).below (Nat.le_of_lt hg)).mono hB⟩
theorem compact_own {w : World} {B n c : Nat} {p : Option Addr} {L : List A2} (h : OwnA w B (.slice p n c) L) (hl : n ≤ 1048576) :
    Calls Tryd.prog 42 #[.slice p n c, .func (.func 43) #[] #[]] w fun e w' => e = .returned (.slice p (firsts L).length c) ∧ OwnA w' B (.slice p (firsts L).length c) (firsts L) ∧ Below B w w' := by
  have hL := own_len h
  by_cases h2 : n < 2
  · have hf : firsts L = L := by
      cases L with
      | nil => rw [firsts]
      | cons a t => cases t with
        | nil => rw [firsts]
        | cons b r => simp at hL; omega
    rw [hf, hL]
    exact (compact_few p n c w h2).mono fun e w' ⟨h1, h2⟩ => ⟨h1, by rw [h2]; exact h, by rw [h2]; exact Below.refl _ _⟩
  · obtain ⟨g, rfl⟩ := own_some h (by omega)
    obtain ⟨_, hc, hg, hB, hb, hp⟩ := own_pairs h
    exact (compact_any g n c L w hL hc (by omega) (by omega) hb hp).mono fun e w' ⟨h1, h2, h3⟩ => ⟨h1, own_out h h2 rfl (by have := firsts_le L; omega) h3, (h2.below (Nat.le_of_lt hg)).mono hB⟩
end Go.Proofs.YtigmhbgdnmkooaaDoor

/- What attrs.Of answers. -/
namespace Go.Proofs.YtigmhbgdnmkooaaDoor
open Go Go.RowKit Go.Lib Go.Sort
set_option linter.unusedVariables false

theorem wpList_make_at (w : World) {ops : Array Oper} {rest : List Oper} {o : Oper} {a : Act} {Q : Exit → Act → World → Prop}
    (hg : o.guard = none) (l c : Operand) (hop : o.op = Op.makeSlice 22 l c) (base : Nat)
    (kl kc : IntKind) (C : Int) (n : Nat) (hl : a.eval l = .int kl 0) (hc : a.eval c = .int kc C) (hC : C = (n : Int)) (b2 : n ≤ 1048577) (b4 : base ≤ w.heap.size)
    (hK : ∀ v w', w'.ownsRow base 48 4 v 0 [] → w.grownBy w' none → wpList Tryd.prog ops Q rest (a.put o.dst v) w') :
    wpList Tryd.prog ops Q (o :: rest) a w := by
  obtain ⟨i, z, hi, hz, hz1, hz2, hz3⟩ := infoAt
  exact wpList_make_own w hg l c _ hop base 48 i z 4 Tryd.underlying22 hi hz hz1 kl kc C n hl hc hC (by rw [hz2]; omega) (by unfold maxLen; omega) b4 fun w' h1 h2 => hK _ w' h1 h2

set_option maxHeartbeats 4000000 in
set_option maxRecDepth 100000 in
theorem attrsOf_any {I : List Nat} {a : Nat → Addr} (v : Value) (L : List A2) (w : World) (hI : ∀ i ∈ IX, i ∈ I) (hS : Std I a w) (hv : RowA w v L)
    (hs : ∀ q ∈ L, q.1.size ≤ 281474976710656 ∧ q.2.2.2.size ≤ 281474976710656) (hl : L.length ≤ 1048576) :
    Calls Tryd.prog 11 #[v] w fun r w' => ∃ v', r = .returned (.tuple #[v', errOf a (ofE L)]) ∧ (ofE L = 0 → OwnA w' w.heap.size v' (ofL L)) ∧ (ofE L ≠ 0 → v' = .slice none 0 0) ∧ Below w.heap.size w w' := by
  obtain ⟨n, hn⟩ : ∃ n, L.length = n := ⟨_, rfl⟩
  obtain ⟨p, cap, rfl, hcap, hc⟩ := hv
  rw [hn] at hl hcap ⊢
  have HN : Hid (L.length = n) := hn
  have HC : Hid _ := hc
  have HS : Hid (Std I a w) := hS
  have HZ : Hid _ := hs
  have HII : Hid (∀ i ∈ IX, i ∈ I) := hI
  clear hc hS hs hI hn
  go_enter Tryd.func11, Tryd.ntmps11
  go_wp2_with (at_make; refine wpList_make_at _ rfl _ _ rfl w.heap.size .i64 .i64 _ n rfl rfl rfl (by omega) (Nat.le_refl _) ?_; intro v0 w1 hown hgr; have hb1 : Below w.heap.size w w1 := (Below.refl _ _).grown hgr (Nat.le_refl _) (fun k hk => by cases hk); clear hgr)
  have HO : Hid (OwnA w1 w.heap.size v0 []) := hown
  clear hown
  go_loopw [4, 6, 7, 13] (fun s _ _ i wr => ∃ (k : Nat), k ≤ n ∧ i = .int .i64 k ∧ Below w.heap.size w wr ∧ Hid (OwnA wr w.heap.size s (L.take k) ∧ ofE L = ofE (L.drop k))) (fun _ _ _ i _ => n - (RowKit.intOf i).toNat)
  case atStart => exact ⟨0, Nat.zero_le _, rfl, hb1, by rw [List.take_zero]; exact HO.out, by rw [List.drop_zero]⟩
  case round =>
    clear hb1 HO
    obtain ⟨k, hk, rfl, hbw, H⟩ := hrel
    by_cases hlt : k < n
    · have hltI : (k : Int) < n := by omega
      obtain ⟨q, hq⟩ : ∃ q, L[k]? = some q := ⟨_, List.getElem?_eq_getElem (by rw [HN.out]; exact hlt)⟩
      obtain ⟨b, off, rfl, hp⟩ := HC.out k q hq
      obtain ⟨c0, c1, c2, c3⟩ := hp.below hbw
      have hzs := HZ.out _ (List.mem_of_getElem? hq)
      have HD : Hid (L.drop k = q :: L.drop (k + 1) ∧ L.take (k + 1) = L.take k ++ [q]) := ⟨drop_cons HN.out hlt hq, by rw [List.take_add_one, hq]; rfl⟩
      obtain ⟨qk, qx, qn, qt⟩ := q
      simp only at c0 c1 c2 c3 hzs
      have hb1 : Below w.heap.size w (wr.alloc (.cells #[.string qk, .int .i64 qx, .int .i64 qn, .string qt] 48)) := hbw.alloc hbw.size _
      have bA : Below wr.heap.size wr (wr.alloc (.cells #[.string qk, .int .i64 qx, .int .i64 qn, .string qt] 48)) := (Below.refl _ _).alloc (Nat.le_refl _) _
      have cP := pair_any (qk, qx, qn, qt) _ HII.out (HS.out.below hb1) hzs.1 hzs.2
      have H1 : Hid (ofE L = if pairE (qk, qx, qn, qt) = 0 then ofE (L.drop (k + 1)) else pairE (qk, qx, qn, qt)) := by
        show _ = _
        rw [H.out.2, HD.out.1, ofE]
      have HOw : Hid (OwnA (wr.alloc (.cells #[.string qk, .int .i64 qx, .int .i64 qn, .string qt] 48)) w.heap.size u4 (L.take k)) := owns_below H.out.1 bA
      have bp : Hid (∀ W, Below (wr.alloc (.cells #[.string qk, .int .i64 qx, .int .i64 qn, .string qt] 48)).heap.size (wr.alloc (.cells #[.string qk, .int .i64 qx, .int .i64 qn, .string qt] 48)) W → PairAt W wr.heap.size 0 (qk, qx, qn, qt)) := fun W hW => PairAt.below (w := wr.alloc (.cells #[.string qk, .int .i64 qx, .int .i64 qn, .string qt] 48)) ⟨by simp, by simp, by simp, by simp⟩ hW
      obtain ⟨PE, hPE⟩ : ∃ PE, pairE (qk, qx, qn, qt) = PE := ⟨_, rfl⟩
      rw [hPE] at cP H1
      have HZQ : Hid (qk.size ≤ 281474976710656 ∧ qt.size ≤ 281474976710656) := hzs
      clear hzs hq hPE H hp bA
      go_wp2_with fail
      refine cP.mono ?_; rintro r w3 ⟨rfl, hb3⟩
      have hb4 := hb1.trans (hb3.mono hb1.size)
      obtain ⟨e0, e1, e2, e3⟩ := bp.out _ hb3
      rw [Nat.zero_add] at e1 e2 e3
      have HO3 : Hid (OwnA w3 w.heap.size u4 (L.take k)) := owns_below HOw.out hb3
      clear cP hb3 hb1 c0 c1 c2 c3 HOw bp
      cases PE with
      | zero =>
        have H2 : Hid (ofE L = ofE (L.drop (k + 1))) := by show _ = _; rw [H1.out, if_pos rfl]
        rw [errOf_zero]
        have cO := fun W => own_any qk (qx, qn, qt) W HZQ.out.1 HZQ.out.2
        clear H1
        go_wp2_with fail
        refine (cO _).mono ?_; rintro r w4 ⟨rfl, hb5⟩
        have hb6 := hb4.trans (hb5.mono hb4.size)
        have bA := (Below.refl w4.heap.size w4).alloc (Nat.le_refl _) (.cells #[.string qk, .int .i64 qx, .int .i64 qn, .string qt] 48)
        have hb7 := hb6.trans (bA.mono hb6.size)
        have HO4 : Hid (OwnA (w4.alloc (.cells #[.string qk, .int .i64 qx, .int .i64 qn, .string qt] 48)) w.heap.size u4 (L.take k)) := owns_below (owns_below HO3.out hb5) bA
        have hge : Hid (∀ j, u4.ownBlock = some j → w.heap.size ≤ j) := fun j hj => (owns_block HO3.out j hj).1
        have hL1 : (L.take k).length ≤ 1048676 := by rw [List.length_take]; omega
        clear e0 e1 e2 e3 hb5 bA cO
        go_wp2_with (at_builtin; refine wpList_append_at rfl (.tmp 22) (.tmp 28) rfl w.heap.size u4 (L.take k) rfl HO4.out w4.heap.size 1 (qk, (qx, qn, qt)) rfl ⟨by simp, by simp, by simp, by simp⟩ hL1 hb7.size ?_; intro v' w6 own' gr'; have b8 := hb7.grown gr' hb7.size (fun j hj => hge.out j hj); have HO8 : Hid (OwnA w6 w.heap.size v' (L.take (k + 1))) := (by show OwnA _ _ _ _; rw [HD.out.2]; exact own'); clear own' gr' hb7 HO4)
        go_roundw
        case rel => exact ⟨k + 1, by omega, by go_num, b8, HO8.out, H2.out⟩
        case measure => simp [RowKit.intOf]; omega
      | succ e =>
        have H2 : Hid (ofE L = e + 1) := by show _ = _; rw [H1.out, if_neg (by omega)]
        rw [errOf_succ]
        clear H1 e0 e1 e2 e3
        go_wp2
        go_ret2
        refine ⟨.slice none 0 0, ?_, fun h => by have := H2.out; omega, fun _ => rfl, hb4⟩
        rw [H2.out, errOf_succ]
        rfl
    · have hltI : ¬ (k : Int) < n := by omega
      have HE : Hid (ofE L = 0) := by
        show _ = _
        rw [H.out.2, List.drop_of_length_le (by rw [HN.out]; omega), ofE]
      have HO2 : Hid (OwnA wr w.heap.size u4 L) := by
        have := H.out.1
        rw [List.take_of_length_le (by rw [HN.out]; omega)] at this
        exact this
      obtain ⟨p4, c4, rfl⟩ := own_slice HO2.out
      rw [HN.out] at HO2 ⊢
      have c1 := reverse_own HO2.out hl
      clear H hlt
      go_wp2_with fail
      refine c1.mono ?_; rintro r w2 ⟨rfl, o2, b2⟩
      have hb2 := hbw.trans b2
      have c2 := sort_own o2 hl
      clear c1 o2 b2 hbw
      go_wp2_with fail
      refine c2.mono ?_; rintro r w3 ⟨rfl, ⟨M, o3, hsl, hsr⟩, b3⟩
      have hb3 := hb2.trans b3
      have hf := of_firsts hsl hsr
      have c3 := compact_own o3 hl
      rw [hf] at c3
      clear c2 o3 b3 hb2 hsl hsr hf
      obtain ⟨m, hm⟩ : ∃ m, (ofL L).length = m := ⟨_, rfl⟩
      have HM : Hid ((ofL L).length = m) := hm
      rw [hm] at c3
      clear hm
      go_wp2_with fail
      refine c3.mono ?_; rintro r w4 ⟨rfl, o4, b4⟩
      have hb4 := hb3.trans b4
      have HO4 : Hid _ := o4
      clear c3 o4 b4 hb3
      go_wp2
      go_ret2
      refine ⟨_, by rw [HE.out, errOf_zero]; rfl, fun _ => HO4.out, fun h => absurd HE.out h, hb4⟩
end Go.Proofs.YtigmhbgdnmkooaaDoor

/- The document's answers of the attrs' calls as joins. -/
namespace Go.Proofs.YtigmhbgdnmkooaaDoor
open Go Go.RowKit Go.Lib
set_option linter.unusedVariables false

def fm (g : A2 → Option P3) (L : List A2) : List A2 := L.filterMap fun x => (g x).map fun v => (x.1, v)
theorem fm_mem {g : A2 → Option P3} {L : List A2} {q : A2} (h : q ∈ fm g L) : ∃ x ∈ L, x.1 = q.1 ∧ g x = some q.2 := by
  obtain ⟨x, hx, e⟩ := List.mem_filterMap.1 h
  obtain ⟨v, hv, rfl⟩ := Option.map_eq_some_iff.1 e
  exact ⟨x, hx, rfl, hv⟩
theorem up_fm {g : A2 → Option P3} {L : List A2} (h : Up L) : Up (fm g L) := by
  unfold fm
  refine List.Pairwise.filterMap _ (R := fun x y : A2 => kc x.1 y.1 < 0) (S := fun x y : A2 => kc x.1 y.1 < 0) (fun a a' hr b hb b' hb' => ?_) h
  obtain ⟨v, hv, rfl⟩ := Option.map_eq_some_iff.1 hb
  obtain ⟨v', hv', rfl⟩ := Option.map_eq_some_iff.1 hb'
  exact hr
theorem look_fm {g : A2 → Option P3} (k : ByteArray) : ∀ {L : List A2}, Up L → look k (fm g L) = (look k L).bind fun v => g (k, v)
  | [], _ => rfl
  | (j, u) :: L, h => by
    have ih := look_fm (g := g) k (L := L) (List.Pairwise.of_cons h)
    have hc : fm g ((j, u) :: L) = ((g (j, u)).map fun v => (j, v)).toList ++ fm g L := by
      unfold fm
      rw [List.filterMap_cons]
      cases g (j, u) <;> rfl
    rw [hc, look]
    by_cases e : j = k
    · subst e
      rw [if_pos rfl]
      have h0 : look j L = none := look_above fun q hq => List.rel_of_pairwise_cons h hq
      rw [h0] at ih
      cases e2 : g (j, u) with
      | none => simp only [Option.map_none, Option.toList_none, List.nil_append, ih]; exact e2.symm
      | some v => show look j ((j, v) :: fm g L) = _; rw [look, if_pos rfl]; exact e2.symm
    · rw [if_neg (show ¬ (j, u).1 = k from e), ← ih]
      cases e2 : g (j, u) with
      | none => rfl
      | some v => show look k ((j, v) :: fm g L) = _; rw [look, if_neg (show ¬ (j, v).1 = k from e)]
theorem filter_fm (p : A2 → Bool) (L : List A2) : L.filter p = fm (fun q => if p q then some q.2 else none) L := by
  unfold fm
  induction L with
  | nil => rfl
  | cons q L ih =>
    rw [List.filter_cons, List.filterMap_cons, ih]
    by_cases h : p q = true <;> simp [h]
theorem whole_eq {a b : List A2} (ha : Up a) (hb : Up b) : wholeL (jn (chC true) a b) = jn (chC false) a b := by
  unfold wholeL
  rw [filter_fm]
  refine up_ext (up_fm (up_join _ ha hb)) (up_join _ ha hb) fun k => ?_
  rw [look_fm k (up_join _ ha hb), look_join _ ha hb, look_join _ ha hb]
  cases look k a <;> cases look k b <;> simp [at2, fOf, chC]
theorem over_eq {a b : List A2} (first : Bool) (ha : Up a) (hb : Up b) : overL a first b = jn (chT first) a b := by
  unfold overL
  rw [filter_fm]
  refine up_ext (up_fm hb) (up_join _ ha hb) fun k => ?_
  rw [look_fm k hb, look_join _ ha hb]
  cases first <;> cases e : look k a <;> cases look k b <;> simp [at2, fOf, chT, e]
theorem bet_eq {a b : List A2} (ha : Up a) (hb : Up b) : betL a b (jn (chC true) a b) = jn chD a b := by
  have e : ∀ J, betL a b J = fm (fun x => if (look x.1 a).getD z0 = (look x.1 b).getD z0 then none else some ((look x.1 b).getD z0)) J := fun J => by
    unfold betL fm
    congr 1
    funext x
    by_cases h : (look x.1 a).getD z0 = (look x.1 b).getD z0 <;> simp [h]
  rw [e]
  refine up_ext (up_fm (up_join _ ha hb)) (up_join _ ha hb) fun k => ?_
  rw [look_fm k (up_join _ ha hb), look_join _ ha hb, look_join _ ha hb]
  have hs : ∀ p q : P3, samP p q = decide (p = q) := fun p q => by
    by_cases h : p = q
    · rw [h, samP_self]; simp
    · rw [samP_ne h]; simp [h]
  cases ea : look k a <;> cases eb : look k b <;> simp [at2, fOf, chC, chD, hs, ea, eb]
theorem und_eq {s p : List A2} (hs : Up s) (hp : Up p) (ns : NoNull s) (pn : ∀ q ∈ p, q.2.1 = 0 → q.2 = z0) : jn chD (jn (chC false) s p) s = jn chI p s := by
  refine up_ext (up_join _ (up_join _ hs hp) hs) (up_join _ hp hs) fun k => ?_
  rw [look_join _ (up_join _ hs hp) hs, look_join _ hs hp, look_join _ hp hs]
  cases es : look k s with
  | none =>
    cases ep : look k p with
    | none => simp [at2]
    | some v =>
      by_cases h1 : v.1 = 0
      · have hv : v = z0 := pn (k, v) (look_mem ep) h1
        subst hv
        simp [at2, fOf, chC, chI, samP_self]; simp [z0]
      · simp [at2, fOf, chC, chI, chD, h1]
  | some u =>
    have hu := nn_look ns es
    cases ep : look k p with
    | none => simp [at2, fOf, chC, chI, chD, hu, samP_self]
    | some v =>
      by_cases h1 : v.1 = 0
      · have hv : v = z0 := pn (k, v) (look_mem ep) h1
        subst hv
        simp [at2, fOf, chC, chI, chD, h1]
      · simp [at2, fOf, chC, chI, chD, h1]
end Go.Proofs.YtigmhbgdnmkooaaDoor

/- What vellumref03.Between answers. -/
namespace Go.Proofs.YtigmhbgdnmkooaaDoor
open Go Go.RowKit Go.Lib
set_option linter.unusedVariables false

/-- Between two marks the memory stands. -/
structure Mid (c : Nat) (u w : World) : Prop where
  size : u.heap.size ≤ w.heap.size
  cell : ∀ g i, c < g → g < u.heap.size → w.cell? ⟨g, i, none⟩ = u.cell? ⟨g, i, none⟩
theorem Mid.refl (c : Nat) (u : World) : Mid c u u := ⟨Nat.le_refl _, fun _ _ _ _ => rfl⟩
theorem Mid.below {c : Nat} {u w w' : World} (h : Mid c u w) (b : Below w.heap.size w w') : Mid c u w' :=
  ⟨Nat.le_trans h.size b.size, fun g i h1 h2 => (b.cell (Nat.lt_of_lt_of_le h2 h.size)).trans (h.cell g i h1 h2)⟩
theorem Mid.alloc {c : Nat} {u w : World} (h : Mid c u w) (o : Obj) : Mid c u (w.alloc o) := h.below ((Below.refl _ _).alloc (Nat.le_refl _) o)
theorem Mid.grown {c : Nat} {u w w' : World} {row : Option Nat} (h : Mid c u w) (g : w.grownBy w' row) (hr : ∀ r, row = some r → r = c ∨ u.heap.size ≤ r) : Mid c u w' :=
  ⟨Nat.le_trans h.size g.size, fun k i h1 h2 => (World.cell?_of_block (a := ⟨k, i, none⟩) (g.block k (Nat.lt_of_lt_of_le h2 h.size) (fun e => by have := hr k e.symm; omega))).trans (h.cell k i h1 h2)⟩
theorem PairAt.mid {c : Nat} {u w : World} {b o : Nat} {q : A2} (h : PairAt u b o q) (m : Mid c u w) (hb : c < b) : PairAt w b o q :=
  ⟨(m.cell _ _ hb h.lt).trans h.c0, (m.cell _ _ hb h.lt).trans h.c1, (m.cell _ _ hb h.lt).trans h.c2, (m.cell _ _ hb h.lt).trans h.c3⟩

set_option maxHeartbeats 4000000 in
set_option maxRecDepth 100000 in
theorem bet_any (va vb : Value) (A B : List A2) (w : World) (hA : RowA w va A) (hB : RowA w vb B) (zB : ∀ m c, vb = .slice none m c → m = 0 ∧ c = 0) (uA : Up A) (uB : Up B) (hl : A.length + B.length ≤ 1048576) :
    Calls Tryd.prog 58 #[va, vb] w fun r w' => ∃ v', r = .returned v' ∧ OwnA w' w.heap.size v' (betL A B (jn (chC true) A B)) ∧ Below w.heap.size w w' := by
  obtain ⟨J, hJ⟩ : ∃ J, jn (chC true) A B = J := ⟨_, rfl⟩
  obtain ⟨n, hn⟩ : ∃ n, J.length = n := ⟨_, rfl⟩
  have hnl : n ≤ 1048576 := by have := jn_len (chC true) A B; rw [hJ, hn] at this; omega
  have HH : Hid (∀ W, Below w.heap.size w W → ∀ key, Calls Tryd.prog 14 #[va, .string key] W fun r w' => r = .returned (.tuple #[plV ((look key A).getD z0), .bool (look key A).isSome]) ∧ Below W.heap.size W w') := fun W hW key => has_any va A key W (hA.below hW) (by omega)
  have HI : Hid (∀ W, Below w.heap.size w W → ∀ key, Calls Tryd.prog 14 #[vb, .string key] W fun r w' => r = .returned (.tuple #[plV ((look key B).getD z0), .bool (look key B).isSome]) ∧ Below W.heap.size W w') := fun W hW key => has_any vb B key W (hB.below hW) (by omega)
  have HJ : Hid (∀ W, Below w.heap.size w W → Calls Tryd.prog 52 #[va, vb] W fun r w' => ∃ v', r = .returned v' ∧ OwnA w' W.heap.size v' J ∧ Below W.heap.size W w') := fun W hW => by
    rw [← hJ]
    exact join_ref va vb A B W (hA.below hW) (hB.below hW) zB uA uB hl
  obtain ⟨pa, ca, rfl, _⟩ := hA.val
  obtain ⟨pb, cb, rfl, _⟩ := hB.val
  rw [hJ]
  have HN : Hid (J.length = n) := hn
  clear hA hB zB uA uB hl hJ hn
  obtain ⟨W1, hW1⟩ : ∃ W, W = w.alloc (.cells #[] 48) := ⟨_, rfl⟩
  have o1 : OwnA W1 w.heap.size (.slice (some ⟨w.heap.size, 0, none⟩) 0 0) [] := by rw [hW1]; exact own_empty' w w.heap.size (Nat.le_refl _)
  have b1 : Below w.heap.size w W1 := by rw [hW1]; exact (Below.refl w.heap.size w).alloc (Nat.le_refl _) _
  have cJ := HJ.out W1 b1
  clear HJ
  go_enter Tryd.func58, Tryd.ntmps58
  go_wp2_with fail
  obtain ⟨v0, hv0⟩ : ∃ v0 : Value, v0 = .slice (some ⟨w.heap.size, 0, none⟩) 0 0 := ⟨_, rfl⟩
  rw [← hv0] at o1 ⊢
  rw [← hW1]
  have hsz : W1.heap.size = w.heap.size + 1 := by rw [hW1]; simp
  have kE : ∀ g, v0.ownBlock = some g → g = w.heap.size := fun g hg => by rw [hv0] at hg; exact (Option.some.inj hg).symm
  clear hv0 hW1
  refine cJ.mono ?_; rintro r w2 ⟨vj, rfl, oj, b2⟩
  have bE := b1.trans (b2.mono b1.size)
  have oE : OwnA w2 w.heap.size v0 [] := owns_below o1 b2
  have rJ := own_rowA oj
  have kJ : ∀ g, vj.ownBlock = some g → w.heap.size < g := fun g hg => by
    have h1 := (owns_block oj g hg).1
    have h2 : W1.heap.size = w.heap.size + 1 := hsz
    omega
  clear cJ o1 b1 b2 oj hsz
  obtain ⟨pj, cj, rfl, hcj, hc⟩ := rJ
  rw [HN.out] at hcj kJ ⊢
  have HC : Hid (∀ (j : Nat) (q : A2), J[j]? = some q → ∃ b off, pj = some ⟨b, off, none⟩ ∧ w.heap.size < b ∧ PairAt w2 b (off + j * 4) q) := fun j q hq => by
    obtain ⟨b, off, rfl, h⟩ := hc j q hq
    exact ⟨b, off, rfl, kJ b rfl, h⟩
  clear hc kJ
  go_wp2_with fail
  go_loopw [5, 17] (fun out i wr => ∃ k : Nat, k ≤ n ∧ i = .int .i64 k ∧ OwnA wr w.heap.size out (betL A B (J.take k)) ∧ Below w.heap.size w wr ∧ Hid (Mid w.heap.size w2 wr) ∧ Hid (∀ g, out.ownBlock = some g → g = w.heap.size ∨ w2.heap.size ≤ g)) (fun _ i _ => n - (RowKit.intOf i).toNat)
  case atStart => exact ⟨0, Nat.zero_le _, rfl, oE, bE, Mid.refl _ _, fun g hg => Or.inl (kE g hg)⟩
  case round =>
    obtain ⟨k, hk, rfl, own, bw, bv, kv⟩ := hrel
    clear oE bE kE
    by_cases hlt : k < n
    · have hltI : (k : Int) < n := by omega
      obtain ⟨q, hq⟩ : ∃ q, J[k]? = some q := ⟨_, List.getElem?_eq_getElem (by rw [HN.out]; exact hlt)⟩
      obtain ⟨b, off, rfl, hbb, hp⟩ := HC.out k q hq
      obtain ⟨c0, c1, c2, c3⟩ := hp.mid bv.out hbb
      clear hbb
      obtain ⟨qk, qx, qn, qt⟩ := q
      simp only at c0 c1 c2 c3
      have hlen : Hid ((betL A B (J.take k)).length ≤ 1048676) := by show _ ≤ _; have h1 := (show (betL A B (J.take k)).length ≤ (J.take k).length from List.length_filterMap_le _ _); rw [List.length_take] at h1; omega
      have HO : Hid (OwnA wr w.heap.size u5 (betL A B (J.take k))) := own
      have HS := filterMap_step (p := fun x : A2 => if (look x.1 A).getD z0 = (look x.1 B).getD z0 then none else some (x.1, (look x.1 B).getD z0)) (L := J) (k := k) hq
      clear hp hq own
      have cH := fun W (hW : Below w.heap.size w W) => HH.out W hW qk
      have cI := fun W (hW : Below w.heap.size w W) => HI.out W hW qk
      obtain ⟨T, hT⟩ : ∃ T, (look qk A).isSome = T := ⟨_, rfl⟩
      obtain ⟨T', hT'⟩ : ∃ T, (look qk B).isSome = T := ⟨_, rfl⟩
      obtain ⟨P, hP⟩ : ∃ P, (look qk A).getD z0 = P := ⟨_, rfl⟩
      obtain ⟨R, hR⟩ : ∃ R, (look qk B).getD z0 = R := ⟨_, rfl⟩
      rw [hT, hP] at cH
      rw [hT', hR] at cI
      simp only [hP, hR] at HS
      have HS' : Hid (betL A B (J.take (k + 1)) = betL A B (J.take k) ++ (if P = R then none else some (qk, R)).toList) := HS
      clear HS hT hT' hP hR
      obtain ⟨p1, p2, p3⟩ := P
      obtain ⟨r1, r2, r3⟩ := R
      obtain ⟨E, hE⟩ : ∃ E, wr.heap.size = E := ⟨_, rfl⟩
      go_wp2_with fail
      obtain ⟨W3, hW3⟩ : ∃ W, W = wr.alloc (.cells #[.string qk, .int .i64 qx, .int .i64 qn, .string qt] 48) := ⟨_, rfl⟩
      have b3 : Below w.heap.size w W3 := by rw [hW3]; exact bw.alloc bw.size _
      have v3 : Hid (Mid w.heap.size w2 W3) := by rw [hW3]; exact bv.out.alloc _
      have p3' : PairAt W3 E 0 (qk, qx, qn, qt) := by rw [hW3, ← hE]; exact ⟨by simp, by simp, by simp, by simp⟩
      have O3 : Hid (OwnA W3 w.heap.size u5 (betL A B (J.take k))) := by rw [hW3]; exact owns_below HO.out ((Below.refl _ _).alloc (Nat.le_refl _) _)
      rw [← hW3]
      clear hW3 hE HO c0 c1 c2 c3 bw bv
      refine (cH _ b3).mono ?_; rintro r w4 ⟨rfl, b4⟩
      clear cH
      have p4 := p3'.below b4
      have O4 : Hid (OwnA w4 w.heap.size u5 (betL A B (J.take k))) := owns_below O3.out b4
      have b5 := b3.trans (b4.mono b3.size)
      have v5 : Hid (Mid w.heap.size w2 w4) := v3.out.below b4
      clear b3 v3 p3' O3 b4
      obtain ⟨F, hF⟩ : ∃ F, w4.heap.size = F := ⟨_, rfl⟩
      have e0 := p4.c0
      have hEF : E < F := by rw [← hF]; exact lt_of_cell e0
      have f1 : ¬ E = F := by omega
      have f2 : ¬ F = E := by omega
      obtain ⟨W5, hW5⟩ : ∃ W, W = w4.alloc (.cells #[.int .i64 p1, .int .i64 p2, .string p3] 36) := ⟨_, rfl⟩
      have b6 : Below w.heap.size w W5 := by rw [hW5]; exact b5.alloc b5.size _
      have v6 : Hid (Mid w.heap.size w2 W5) := by rw [hW5]; exact v5.out.alloc _
      have p6 : PairAt W5 E 0 (qk, qx, qn, qt) := by rw [hW5]; exact p4.below ((Below.refl _ _).alloc (Nat.le_refl _) _)
      have x0 : (w4.alloc (.cells #[.int .i64 p1, .int .i64 p2, .string p3] 36)).cell? ⟨E, 0, none⟩ = some (.string qk) := by rw [← hW5]; exact p6.c0
      have O6 : Hid (OwnA W5 w.heap.size u5 (betL A B (J.take k))) := by rw [hW5]; exact owns_below O4.out ((Below.refl _ _).alloc (Nat.le_refl _) _)
      have P6 : Hid (W5.cell? ⟨F, 0, none⟩ = some (.int .i64 p1) ∧ W5.cell? ⟨F, 1, none⟩ = some (.int .i64 p2) ∧ W5.cell? ⟨F, 2, none⟩ = some (.string p3)) := by rw [hW5, ← hF]; exact ⟨by simp, by simp, by simp⟩
      clear p4 O4 b5 v5
      go_wp2_with fail
      rw [← hW5]
      clear hW5 x0 e0 hF
      refine (cI _ b6).mono ?_; rintro r w7 ⟨rfl, b7⟩
      clear cI
      have p7 := p6.below b7
      have P7 : Hid (w7.cell? ⟨F, 0, none⟩ = some (.int .i64 p1) ∧ w7.cell? ⟨F, 1, none⟩ = some (.int .i64 p2) ∧ w7.cell? ⟨F, 2, none⟩ = some (.string p3)) := ⟨(b7.cell (lt_of_cell P6.out.1)).trans P6.out.1, (b7.cell (lt_of_cell P6.out.2.1)).trans P6.out.2.1, (b7.cell (lt_of_cell P6.out.2.2)).trans P6.out.2.2⟩
      have O7 : Hid (OwnA w7 w.heap.size u5 (betL A B (J.take k))) := owns_below O6.out b7
      have b8 := b6.trans (b7.mono b6.size)
      have v8 : Hid (Mid w.heap.size w2 w7) := v6.out.below b7
      clear b6 v6 p6 O6 P6 b7
      obtain ⟨G, hG⟩ : ∃ G, w7.heap.size = G := ⟨_, rfl⟩
      have hFG : F < G := by rw [← hG]; exact lt_of_cell P7.out.1
      have f3 : ¬ E = G := by omega
      have f4 : ¬ G = E := by omega
      have f5 : ¬ F = G := by omega
      have f6 : ¬ G = F := by omega
      go_upto_region 7 with fail
      obtain ⟨W9, hW9⟩ : ∃ W, W = w7.alloc (.cells #[.int .i64 r1, .int .i64 r2, .string r3] 36) := ⟨_, rfl⟩
      have b9 : Below w.heap.size w W9 := by rw [hW9]; exact b8.alloc b8.size _
      have v9 : Hid (Mid w.heap.size w2 W9) := by rw [hW9]; exact v8.out.alloc _
      have p9 : PairAt W9 E 0 (qk, qx, qn, qt) := by rw [hW9]; exact p7.below ((Below.refl _ _).alloc (Nat.le_refl _) _)
      have bx : Below w7.heap.size w7 W9 := by rw [hW9]; exact (Below.refl _ _).alloc (Nat.le_refl _) _
      have P9 : W9.cell? ⟨F, 0, none⟩ = some (.int .i64 p1) ∧ W9.cell? ⟨F, 1, none⟩ = some (.int .i64 p2) ∧ W9.cell? ⟨F, 2, none⟩ = some (.string p3) := ⟨(bx.cell (lt_of_cell P7.out.1)).trans P7.out.1, (bx.cell (lt_of_cell P7.out.2.1)).trans P7.out.2.1, (bx.cell (lt_of_cell P7.out.2.2)).trans P7.out.2.2⟩
      have R9 : W9.cell? ⟨G, 0, none⟩ = some (.int .i64 r1) ∧ W9.cell? ⟨G, 1, none⟩ = some (.int .i64 r2) ∧ W9.cell? ⟨G, 2, none⟩ = some (.string r3) := by rw [hW9, ← hG]; exact ⟨by simp, by simp, by simp⟩
      have O9 : Hid (OwnA W9 w.heap.size u5 (betL A B (J.take k))) := owns_below O7.out bx
      rw [← hW9]
      clear hW9 p7 P7 O7 b8 v8 hG bx
      obtain ⟨m0, m1, m2⟩ := P9
      obtain ⟨n0, n1, n2⟩ := R9
      have e0 := p9.c0
      simp only at e0
      clear p9
      have gd := fun op x y w => guard_pl op x y (p1, p2, p3) (r1, r2, r3) w
      by_cases he : ((p1, p2, p3) : P3) = (r1, r2, r3)
      · have hne := neq_pl (p1, p2, p3) (r1, r2, r3) false (by rw [he, samP_self]; rfl)
        have HR : Hid (betL A B (J.take (k + 1)) = betL A B (J.take k)) := by
          show _ = _
          rw [HS'.out, if_pos he]; simp
        clear HS' he
        go_wp2_with fail
        go_roundw
        case rel => exact ⟨k + 1, by omega, by go_num, by rw [HR.out]; exact O9.out, b9, v9, kv⟩
        case measure => simp [RowKit.intOf]; omega
      · have hne := neq_pl (p1, p2, p3) (r1, r2, r3) true (by rw [samP_ne he]; rfl)
        have HR : Hid (betL A B (J.take (k + 1)) = betL A B (J.take k) ++ [(qk, r1, r2, r3)]) := by
          show _ = _
          rw [HS'.out, if_neg he]; rfl
        clear HS' he
        have o6 := owns_below O9.out ((Below.refl W9.heap.size W9).alloc (Nat.le_refl _) (.cells #[.string qk, .int .i64 r1, .int .i64 r2, .string r3] 48))
        have b7 := b9.alloc b9.size (.cells #[.string qk, .int .i64 r1, .int .i64 r2, .string r3] 48)
        have v7 : Hid (Mid w.heap.size w2 (W9.alloc (.cells #[.string qk, .int .i64 r1, .int .i64 r2, .string r3] 48))) := v9.out.alloc _
        have hge : ∀ j, u5.ownBlock = some j → w.heap.size ≤ j := fun j hj => (owns_block o6 j hj).1
        go_wp2_with (at_builtin; refine wpList_append_atx rfl (.tmp 38) (.tmp 43) rfl w.heap.size u5 (betL A B (J.take k)) rfl o6 W9.heap.size 0 1 1 [(qk, r1, r2, r3)] rfl rfl (one_at ⟨by simp, by simp, by simp, by simp⟩) (by have := hlen.out; omega) b7.size ?_; intro v' w6 own' gr' hat')
        have b10 := b7.grown gr' b7.size (fun j hj => hge j hj)
        have v10 : Hid (Mid w.heap.size w2 w6) := v7.out.grown gr' kv.out
        have kv' : Hid (∀ g, v'.ownBlock = some g → g = w.heap.size ∨ w2.heap.size ≤ g) := fun g hg => by
          rcases hat' with h | h
          · exact kv.out g (by rw [← h]; exact hg)
          · rw [h] at hg
            have h1 := Option.some.inj hg
            have h2 := v7.out.size
            omega
        go_roundw
        case rel => exact ⟨k + 1, by omega, by go_num, by rw [HR.out]; exact own', b10, v10, kv'⟩
        case measure => simp [RowKit.intOf]; omega
    · have hltI : ¬ (k : Int) < n := by omega
      have HO : Hid (OwnA wr w.heap.size u5 (betL A B J)) := by
        show OwnA _ _ _ _
        rw [List.take_of_length_le (by rw [HN.out]; omega)] at own
        exact own
      clear own
      go_wp2
      go_ret
      exact ⟨_, rfl, HO.out, bw⟩
end Go.Proofs.YtigmhbgdnmkooaaDoor

/- What vellumref03.Compose, Apply, Diff, Invert and Transform answer. -/
namespace Go.Proofs.YtigmhbgdnmkooaaDoor
open Go Go.RowKit Go.Lib
set_option linter.unusedVariables false

/-- A nil slice is empty and has no room. -/
abbrev NilZ (v : Value) : Prop := ∀ m c, v = .slice none m c → m = 0 ∧ c = 0
theorem wholeL_len (L : List A2) : (wholeL L).length ≤ L.length := List.length_filter_le _ _

theorem patched_any (va vb : Value) (A B : List A2) (w : World) (hA : RowA w va A) (hB : RowA w vb B) (zB : NilZ vb) (uA : Up A) (uB : Up B) (hl : A.length + B.length ≤ 1048576) :
    Calls Tryd.prog 54 #[va, vb] w fun r w' => ∃ v', r = .returned v' ∧ OwnA w' w.heap.size v' (jn (chC false) A B) ∧ Below w.heap.size w w' := by
  have cJ := join_ref va vb A B w hA hB zB uA uB hl
  have cW := fun W (v : Value) (hv : RowA W v (jn (chC true) A B)) => whole_any v (jn (chC true) A B) W hv (by have := jn_len (chC true) A B; omega)
  rw [whole_eq uA uB] at cW
  obtain ⟨pa, ca, rfl, _⟩ := hA.val
  obtain ⟨pb, cb, rfl, _⟩ := hB.val
  clear hA hB uA uB hl zB
  go_enter Tryd.func54, Tryd.ntmps54
  go_wp2_with fail
  refine cJ.mono ?_; rintro r w2 ⟨v', rfl, own, hb2⟩
  have cW' := cW w2 v' (own_rowA own)
  clear cJ cW own
  go_wp2_with fail
  refine cW'.mono ?_; rintro r w3 ⟨v2, rfl, own, hb3⟩
  have HO : Hid _ := own
  clear own
  go_wp2
  go_ret
  exact ⟨_, rfl, own_weaken HO.out hb2.size, hb2.trans (hb3.mono hb2.size)⟩

theorem undo_any (va vb : Value) (P S : List A2) (w : World) (hA : RowA w va P) (hB : RowA w vb S) (zA : NilZ va) (zB : NilZ vb) (pP : Pat P) (pS : Pat S) (nS : NoNull S) (hl : P.length + S.length + S.length ≤ 1048576) :
    Calls Tryd.prog 60 #[va, vb] w fun r w' => ∃ v', r = .returned v' ∧ OwnA w' w.heap.size v' (jn chI P S) ∧ Below w.heap.size w w' := by
  have cJ := patched_any vb va S P w hB hA zA pS.up pP.up (by omega)
  have cW := fun W (hW : Below w.heap.size w W) (v : Value) (hv : RowA W v (jn (chC false) S P)) => bet_any v vb (jn (chC false) S P) S W hv (hB.below hW) zB (up_join _ pS.up pP.up) pS.up (by have := jn_len (chC false) S P; omega)
  rw [bet_eq (up_join _ pS.up pP.up) pS.up, und_eq pS.up pP.up nS pP.null0] at cW
  obtain ⟨pa, ca, rfl, _⟩ := hA.val
  obtain ⟨pb, cb, rfl, _⟩ := hB.val
  clear hA hB pP pS nS hl zB zA
  go_enter Tryd.func60, Tryd.ntmps60
  go_wp2_with fail
  refine cJ.mono ?_; rintro r w2 ⟨v', rfl, own, hb2⟩
  have cW' := cW w2 hb2 v' (own_rowA own)
  clear cJ cW own
  go_wp2_with fail
  refine cW'.mono ?_; rintro r w3 ⟨v2, rfl, own, hb3⟩
  have HO : Hid _ := own
  clear own
  go_wp2
  go_ret
  exact ⟨_, rfl, own_weaken HO.out hb2.size, hb2.trans (hb3.mono hb2.size)⟩

theorem rappl_no {I : List Nat} {a : Nat → Addr} (va vb : Value) (A B : List A2) (w : World) (hS : Std I a w) (hA : RowA w va A) (hB : RowA w vb B) (zA : NilZ va) (zB : NilZ vb) (sA : Tiny A) (sB : Tiny B) (hl : A.length + B.length + B.length ≤ 1048576) (hE : bothE A false B true ≠ 0) :
    Calls Tryd.prog 22 #[va, vb] w fun r w' => r = .returned (.tuple #[.slice none 0 0, .int .i64 (bothE A false B true)]) ∧ Below w.heap.size w w' := by
  have c := ref_both va vb A B false true w hS hA hB sA sB (by omega)
  obtain ⟨E, hE2⟩ : ∃ E, bothE A false B true = E := ⟨_, rfl⟩
  rw [hE2] at c hE ⊢
  have hen : ((E : Int) != 0) = true := by simp; omega
  obtain ⟨pa, ca, rfl, _⟩ := hA.val
  obtain ⟨pb, cb, rfl, _⟩ := hB.val
  clear hA hB hS sA sB hl hE hE2 zA zB
  go_enter Tryd.func22, Tryd.ntmps22
  go_wp2_with fail
  refine c.mono ?_; rintro r w2 ⟨rfl, hb2⟩
  go_wp2
  go_ret2
  exact ⟨rfl, hb2⟩

theorem rappl_ok {I : List Nat} {a : Nat → Addr} (va vb : Value) (A B : List A2) (w : World) (hS : Std I a w) (hA : RowA w va A) (hB : RowA w vb B) (zA : NilZ va) (zB : NilZ vb) (sA : Tiny A) (sB : Tiny B) (hl : A.length + B.length + B.length ≤ 1048576) (hE : bothE A false B true = 0) :
    Calls Tryd.prog 22 #[va, vb] w fun r w' => ∃ v', r = .returned (.tuple #[v', .int .i64 0]) ∧ OwnA w' w.heap.size v' (jn (chC false) A B) ∧ Below w.heap.size w w' := by
  have c := ref_both va vb A B false true w hS hA hB sA sB (by omega)
  rw [hE] at c
  have hz : listE false none A = 0 ∧ listE true none B = 0 := by
    unfold bothE at hE
    by_cases h : listE false none A = 0
    · rw [if_pos h] at hE; exact ⟨h, hE⟩
    · rw [if_neg h] at hE; exact absurd hE h
  have gA : Pat A := (set_of hz.1).1
  have gB : Pat B := pat_of hz.2
  have cJ : ∀ W, Below w.heap.size w W → Calls Tryd.prog 54 #[va, vb] W fun r w' => ∃ v', r = .returned v' ∧ OwnA w' W.heap.size v' (jn (chC false) A B) ∧ Below W.heap.size W w' := fun W hW => by
    exact patched_any va vb A B W (hA.below hW) (hB.below hW) zB gA.up gB.up (by omega)
  obtain ⟨pa, ca, rfl, _⟩ := hA.val
  obtain ⟨pb, cb, rfl, _⟩ := hB.val
  clear hA hB hS sA sB hl hE zA zB hz gA gB
  go_enter Tryd.func22, Tryd.ntmps22
  go_wp2_with fail
  refine c.mono ?_; rintro r w2 ⟨rfl, hb2⟩
  have cJ' := cJ _ hb2
  clear cJ c
  go_wp2_with fail
  refine cJ'.mono ?_; rintro r w3 ⟨v', rfl, own, hb3⟩
  have HO : Hid _ := own
  clear own
  go_wp2
  go_ret2
  exact ⟨_, rfl, own_weaken HO.out hb2.size, hb2.trans (hb3.mono hb2.size)⟩

theorem rdiff_no {I : List Nat} {a : Nat → Addr} (va vb : Value) (A B : List A2) (w : World) (hS : Std I a w) (hA : RowA w va A) (hB : RowA w vb B) (zA : NilZ va) (zB : NilZ vb) (sA : Tiny A) (sB : Tiny B) (hl : A.length + B.length + B.length ≤ 1048576) (hE : bothE A false B false ≠ 0) :
    Calls Tryd.prog 24 #[va, vb] w fun r w' => r = .returned (.tuple #[.slice none 0 0, .int .i64 (bothE A false B false)]) ∧ Below w.heap.size w w' := by
  have c := ref_both va vb A B false false w hS hA hB sA sB (by omega)
  obtain ⟨E, hE2⟩ : ∃ E, bothE A false B false = E := ⟨_, rfl⟩
  rw [hE2] at c hE ⊢
  have hen : ((E : Int) != 0) = true := by simp; omega
  obtain ⟨pa, ca, rfl, _⟩ := hA.val
  obtain ⟨pb, cb, rfl, _⟩ := hB.val
  clear hA hB hS sA sB hl hE hE2 zA zB
  go_enter Tryd.func24, Tryd.ntmps24
  go_wp2_with fail
  refine c.mono ?_; rintro r w2 ⟨rfl, hb2⟩
  go_wp2
  go_ret2
  exact ⟨rfl, hb2⟩

theorem rdiff_ok {I : List Nat} {a : Nat → Addr} (va vb : Value) (A B : List A2) (w : World) (hS : Std I a w) (hA : RowA w va A) (hB : RowA w vb B) (zA : NilZ va) (zB : NilZ vb) (sA : Tiny A) (sB : Tiny B) (hl : A.length + B.length + B.length ≤ 1048576) (hE : bothE A false B false = 0) :
    Calls Tryd.prog 24 #[va, vb] w fun r w' => ∃ v', r = .returned (.tuple #[v', .int .i64 0]) ∧ OwnA w' w.heap.size v' (jn chD A B) ∧ Below w.heap.size w w' := by
  have c := ref_both va vb A B false false w hS hA hB sA sB (by omega)
  rw [hE] at c
  have hz : listE false none A = 0 ∧ listE false none B = 0 := by
    unfold bothE at hE
    by_cases h : listE false none A = 0
    · rw [if_pos h] at hE; exact ⟨h, hE⟩
    · rw [if_neg h] at hE; exact absurd hE h
  have gA : Pat A := (set_of hz.1).1
  have gB : Pat B := (set_of hz.2).1
  have nB : NoNull B := (set_of hz.2).2
  have cJ : ∀ W, Below w.heap.size w W → Calls Tryd.prog 58 #[va, vb] W fun r w' => ∃ v', r = .returned v' ∧ OwnA w' W.heap.size v' (jn chD A B) ∧ Below W.heap.size W w' := fun W hW => by
    rw [← bet_eq gA.up gB.up]
    exact bet_any va vb A B W (hA.below hW) (hB.below hW) zB gA.up gB.up (by omega)
  obtain ⟨pa, ca, rfl, _⟩ := hA.val
  obtain ⟨pb, cb, rfl, _⟩ := hB.val
  clear hA hB hS sA sB hl hE zA zB hz gA gB nB
  go_enter Tryd.func24, Tryd.ntmps24
  go_wp2_with fail
  refine c.mono ?_; rintro r w2 ⟨rfl, hb2⟩
  have cJ' := cJ _ hb2
  clear cJ c
  go_wp2_with fail
  refine cJ'.mono ?_; rintro r w3 ⟨v', rfl, own, hb3⟩
  have HO : Hid _ := own
  clear own
  go_wp2
  go_ret2
  exact ⟨_, rfl, own_weaken HO.out hb2.size, hb2.trans (hb3.mono hb2.size)⟩

theorem rinve_no {I : List Nat} {a : Nat → Addr} (va vb : Value) (A B : List A2) (w : World) (hS : Std I a w) (hA : RowA w va A) (hB : RowA w vb B) (zA : NilZ va) (zB : NilZ vb) (sA : Tiny A) (sB : Tiny B) (hl : A.length + B.length + B.length ≤ 1048576) (hE : bothE A true B false ≠ 0) :
    Calls Tryd.prog 26 #[va, vb] w fun r w' => r = .returned (.tuple #[.slice none 0 0, .int .i64 (bothE A true B false)]) ∧ Below w.heap.size w w' := by
  have c := ref_both va vb A B true false w hS hA hB sA sB (by omega)
  obtain ⟨E, hE2⟩ : ∃ E, bothE A true B false = E := ⟨_, rfl⟩
  rw [hE2] at c hE ⊢
  have hen : ((E : Int) != 0) = true := by simp; omega
  obtain ⟨pa, ca, rfl, _⟩ := hA.val
  obtain ⟨pb, cb, rfl, _⟩ := hB.val
  clear hA hB hS sA sB hl hE hE2 zA zB
  go_enter Tryd.func26, Tryd.ntmps26
  go_wp2_with fail
  refine c.mono ?_; rintro r w2 ⟨rfl, hb2⟩
  go_wp2
  go_ret2
  exact ⟨rfl, hb2⟩

theorem rinve_ok {I : List Nat} {a : Nat → Addr} (va vb : Value) (A B : List A2) (w : World) (hS : Std I a w) (hA : RowA w va A) (hB : RowA w vb B) (zA : NilZ va) (zB : NilZ vb) (sA : Tiny A) (sB : Tiny B) (hl : A.length + B.length + B.length ≤ 1048576) (hE : bothE A true B false = 0) :
    Calls Tryd.prog 26 #[va, vb] w fun r w' => ∃ v', r = .returned (.tuple #[v', .int .i64 0]) ∧ OwnA w' w.heap.size v' (jn chI A B) ∧ Below w.heap.size w w' := by
  have c := ref_both va vb A B true false w hS hA hB sA sB (by omega)
  rw [hE] at c
  have hz : listE true none A = 0 ∧ listE false none B = 0 := by
    unfold bothE at hE
    by_cases h : listE true none A = 0
    · rw [if_pos h] at hE; exact ⟨h, hE⟩
    · rw [if_neg h] at hE; exact absurd hE h
  have gA : Pat A := pat_of hz.1
  have gB : Pat B := (set_of hz.2).1
  have nB : NoNull B := (set_of hz.2).2
  have cJ : ∀ W, Below w.heap.size w W → Calls Tryd.prog 60 #[va, vb] W fun r w' => ∃ v', r = .returned v' ∧ OwnA w' W.heap.size v' (jn chI A B) ∧ Below W.heap.size W w' := fun W hW => by
    exact undo_any va vb A B W (hA.below hW) (hB.below hW) zA zB gA gB nB hl
  obtain ⟨pa, ca, rfl, _⟩ := hA.val
  obtain ⟨pb, cb, rfl, _⟩ := hB.val
  clear hA hB hS sA sB hl hE zA zB hz gA gB nB
  go_enter Tryd.func26, Tryd.ntmps26
  go_wp2_with fail
  refine c.mono ?_; rintro r w2 ⟨rfl, hb2⟩
  have cJ' := cJ _ hb2
  clear cJ c
  go_wp2_with fail
  refine cJ'.mono ?_; rintro r w3 ⟨v', rfl, own, hb3⟩
  have HO : Hid _ := own
  clear own
  go_wp2
  go_ret2
  exact ⟨_, rfl, own_weaken HO.out hb2.size, hb2.trans (hb3.mono hb2.size)⟩

theorem rtran_no {I : List Nat} {a : Nat → Addr} (first : Bool) (va vb : Value) (A B : List A2) (w : World) (hS : Std I a w) (hA : RowA w va A) (hB : RowA w vb B) (zA : NilZ va) (zB : NilZ vb) (sA : Tiny A) (sB : Tiny B) (hl : A.length + B.length + B.length ≤ 1048576) (hE : bothE A true B true ≠ 0) :
    Calls Tryd.prog 28 #[va, vb, .bool first] w fun r w' => r = .returned (.tuple #[.slice none 0 0, .int .i64 (bothE A true B true)]) ∧ Below w.heap.size w w' := by
  have c := ref_both va vb A B true true w hS hA hB sA sB (by omega)
  obtain ⟨E, hE2⟩ : ∃ E, bothE A true B true = E := ⟨_, rfl⟩
  rw [hE2] at c hE ⊢
  have hen : ((E : Int) != 0) = true := by simp; omega
  obtain ⟨pa, ca, rfl, _⟩ := hA.val
  obtain ⟨pb, cb, rfl, _⟩ := hB.val
  clear hA hB hS sA sB hl hE hE2 zA zB
  go_enter Tryd.func28, Tryd.ntmps28
  go_wp2_with fail
  refine c.mono ?_; rintro r w2 ⟨rfl, hb2⟩
  go_wp2
  go_ret2
  exact ⟨rfl, hb2⟩

theorem rtran_ok {I : List Nat} {a : Nat → Addr} (first : Bool) (va vb : Value) (A B : List A2) (w : World) (hS : Std I a w) (hA : RowA w va A) (hB : RowA w vb B) (zA : NilZ va) (zB : NilZ vb) (sA : Tiny A) (sB : Tiny B) (hl : A.length + B.length + B.length ≤ 1048576) (hE : bothE A true B true = 0) :
    Calls Tryd.prog 28 #[va, vb, .bool first] w fun r w' => ∃ v', r = .returned (.tuple #[v', .int .i64 0]) ∧ OwnA w' w.heap.size v' (jn (chT first) A B) ∧ Below w.heap.size w w' := by
  have c := ref_both va vb A B true true w hS hA hB sA sB (by omega)
  rw [hE] at c
  have hz : listE true none A = 0 ∧ listE true none B = 0 := by
    unfold bothE at hE
    by_cases h : listE true none A = 0
    · rw [if_pos h] at hE; exact ⟨h, hE⟩
    · rw [if_neg h] at hE; exact absurd hE h
  have gA : Pat A := pat_of hz.1
  have gB : Pat B := pat_of hz.2
  have cJ : ∀ W, Below w.heap.size w W → Calls Tryd.prog 32 #[va, vb, .bool first] W fun r w' => ∃ v', r = .returned v' ∧ OwnA w' W.heap.size v' (jn (chT first) A B) ∧ Below W.heap.size W w' := fun W hW => by
    rw [← over_eq first gA.up gB.up]
    exact over_any va vb A B first W (hB.below hW) (by omega) (hA.below hW) (by omega)
  obtain ⟨pa, ca, rfl, _⟩ := hA.val
  obtain ⟨pb, cb, rfl, _⟩ := hB.val
  clear hA hB hS sA sB hl hE zA zB hz gA gB
  go_enter Tryd.func28, Tryd.ntmps28
  go_wp2_with fail
  refine c.mono ?_; rintro r w2 ⟨rfl, hb2⟩
  have cJ' := cJ _ hb2
  clear cJ c
  go_wp2_with fail
  refine cJ'.mono ?_; rintro r w3 ⟨v', rfl, own, hb3⟩
  have HO : Hid _ := own
  clear own
  go_wp2
  go_ret2
  exact ⟨_, rfl, own_weaken HO.out hb2.size, hb2.trans (hb3.mono hb2.size)⟩

theorem rcomp_no {I : List Nat} {a : Nat → Addr} (nulls : Bool) (va vb : Value) (A B : List A2) (w : World) (hS : Std I a w) (hA : RowA w va A) (hB : RowA w vb B) (zA : NilZ va) (zB : NilZ vb) (sA : Tiny A) (sB : Tiny B) (hl : A.length + B.length + B.length ≤ 1048576) (hE : bothE A true B true ≠ 0) :
    Calls Tryd.prog 20 #[va, vb, .bool nulls] w fun r w' => r = .returned (.tuple #[.slice none 0 0, .int .i64 (bothE A true B true)]) ∧ Below w.heap.size w w' := by
  have c := ref_both va vb A B true true w hS hA hB sA sB (by omega)
  obtain ⟨E, hE2⟩ : ∃ E, bothE A true B true = E := ⟨_, rfl⟩
  rw [hE2] at c hE ⊢
  have hen : ((E : Int) != 0) = true := by simp; omega
  obtain ⟨pa, ca, rfl, _⟩ := hA.val
  obtain ⟨pb, cb, rfl, _⟩ := hB.val
  clear hA hB hS sA sB hl hE hE2 zA zB
  go_enter Tryd.func20, Tryd.ntmps20
  go_wp2_with fail
  refine c.mono ?_; rintro r w2 ⟨rfl, hb2⟩
  go_wp2
  go_ret2
  exact ⟨rfl, hb2⟩

theorem rcomp_true_ok {I : List Nat} {a : Nat → Addr} (va vb : Value) (A B : List A2) (w : World) (hS : Std I a w) (hA : RowA w va A) (hB : RowA w vb B) (zA : NilZ va) (zB : NilZ vb) (sA : Tiny A) (sB : Tiny B) (hl : A.length + B.length + B.length ≤ 1048576) (hE : bothE A true B true = 0) :
    Calls Tryd.prog 20 #[va, vb, .bool true] w fun r w' => ∃ v', r = .returned (.tuple #[v', .int .i64 0]) ∧ OwnA w' w.heap.size v' (jn (chC true) A B) ∧ Below w.heap.size w w' := by
  have c := ref_both va vb A B true true w hS hA hB sA sB (by omega)
  rw [hE] at c
  have hz : listE true none A = 0 ∧ listE true none B = 0 := by
    unfold bothE at hE
    by_cases h : listE true none A = 0
    · rw [if_pos h] at hE; exact ⟨h, hE⟩
    · rw [if_neg h] at hE; exact absurd hE h
  have gA : Pat A := pat_of hz.1
  have gB : Pat B := pat_of hz.2
  have cJ : ∀ W, Below w.heap.size w W → Calls Tryd.prog 52 #[va, vb] W fun r w' => ∃ v', r = .returned v' ∧ OwnA w' W.heap.size v' (jn (chC true) A B) ∧ Below W.heap.size W w' := fun W hW => by
    exact join_ref va vb A B W (hA.below hW) (hB.below hW) zB gA.up gB.up (by omega)
  obtain ⟨pa, ca, rfl, _⟩ := hA.val
  obtain ⟨pb, cb, rfl, _⟩ := hB.val
  clear hA hB hS sA sB hl hE zA zB hz gA gB
  go_enter Tryd.func20, Tryd.ntmps20
  go_wp2_with fail
  refine c.mono ?_; rintro r w2 ⟨rfl, hb2⟩
  have cJ' := cJ _ hb2
  clear cJ c
  go_wp2_with fail
  refine cJ'.mono ?_; rintro r w3 ⟨v', rfl, own, hb3⟩
  have HO : Hid _ := own
  clear own
  go_wp2
  go_ret2
  exact ⟨_, rfl, own_weaken HO.out hb2.size, hb2.trans (hb3.mono hb2.size)⟩

theorem rcomp_false_ok {I : List Nat} {a : Nat → Addr} (va vb : Value) (A B : List A2) (w : World) (hS : Std I a w) (hA : RowA w va A) (hB : RowA w vb B) (zA : NilZ va) (zB : NilZ vb) (sA : Tiny A) (sB : Tiny B) (hl : A.length + B.length + B.length ≤ 1048576) (hE : bothE A true B true = 0) :
    Calls Tryd.prog 20 #[va, vb, .bool false] w fun r w' => ∃ v', r = .returned (.tuple #[v', .int .i64 0]) ∧ OwnA w' w.heap.size v' (jn (chC false) A B) ∧ Below w.heap.size w w' := by
  have c := ref_both va vb A B true true w hS hA hB sA sB (by omega)
  rw [hE] at c
  have hz : listE true none A = 0 ∧ listE true none B = 0 := by
    unfold bothE at hE
    by_cases h : listE true none A = 0
    · rw [if_pos h] at hE; exact ⟨h, hE⟩
    · rw [if_neg h] at hE; exact absurd hE h
  have gA : Pat A := pat_of hz.1
  have gB : Pat B := pat_of hz.2
  have cJ := fun W (hW : Below w.heap.size w W) => join_ref va vb A B W (hA.below hW) (hB.below hW) zB gA.up gB.up (by omega)
  have cW := fun W (v : Value) (hv : RowA W v (jn (chC true) A B)) => whole_any v (jn (chC true) A B) W hv (by have := jn_len (chC true) A B; omega)
  rw [whole_eq gA.up gB.up] at cW
  obtain ⟨pa, ca, rfl, _⟩ := hA.val
  obtain ⟨pb, cb, rfl, _⟩ := hB.val
  clear hA hB hS sA sB hl hE zA zB hz gA gB
  go_enter Tryd.func20, Tryd.ntmps20
  go_wp2_with fail
  refine c.mono ?_; rintro r w2 ⟨rfl, hb2⟩
  have cJ' := cJ _ hb2
  clear cJ c
  go_wp2_with fail
  refine cJ'.mono ?_; rintro r w3 ⟨v', rfl, own, hb3⟩
  have cW' := cW w3 v' (own_rowA own)
  clear cW own
  go_wp2_with fail
  refine cW'.mono ?_; rintro r w4 ⟨v2, rfl, own, hb4⟩
  have HO : Hid _ := own
  clear own
  go_wp2
  go_ret2
  have h23 := hb2.trans (hb3.mono hb2.size)
  exact ⟨_, rfl, own_weaken HO.out h23.size, h23.trans (hb4.mono h23.size)⟩
end Go.Proofs.YtigmhbgdnmkooaaDoor

/- vellumhand.Attrs and Kept. -/
namespace Go.Proofs.YtigmhbgdnmkooaaDoor
open Go Go.RowKit Go.Lib
set_option linter.unusedVariables false

abbrev s2 : A2 := (⟨#[114, 111, 111, 109]⟩, 0, 0, ⟨#[]⟩)
/-- A copy with two more behind its end. -/
def HandA (w : World) (v : Value) (A : List A2) : Prop :=
  NilZ v ∧ RowA w v A ∧ (A ≠ [] → ∃ p c, v = .slice p A.length c ∧ A.length + 2 ≤ c ∧ RowA w (.slice p (A.length + 2) c) (A ++ [s1, s2]))
theorem HandA.below {w w' : World} {v : Value} {A : List A2} (h : HandA w v A) (b : Below w.heap.size w w') : HandA w' v A :=
  ⟨h.1, h.2.1.below b, fun hA => by obtain ⟨p, c, h1, h2, h3⟩ := h.2.2 hA; exact ⟨p, c, h1, h2, h3.below b⟩⟩
set_option maxHeartbeats 2000000 in
set_option maxRecDepth 100000 in
theorem hattrs_any (v : Value) (A : List A2) (w : World) (hA : RowA w v A) (hl : A.length ≤ 1048576) :
    Calls Tryd.prog 7 #[v] w fun r w' => ∃ v', r = .returned v' ∧ HandA w' v' A ∧ Below w.heap.size w w' := by
  obtain ⟨n, hn⟩ : ∃ n, A.length = n := ⟨_, rfl⟩
  obtain ⟨p, cap, rfl, hcap, hc⟩ := hA
  rw [hn] at hl hcap ⊢
  have HN : Hid (A.length = n) := hn
  have HC : Hid _ := hc
  clear hc hn
  by_cases h0 : n = 0
  · subst h0
    obtain rfl : A = [] := List.eq_nil_of_length_eq_zero HN.out
    have hz : HandA w (.slice none 0 0) [] := ⟨fun m c h => by simp only [Value.slice.injEq] at h; exact ⟨h.2.1.symm, h.2.2.symm⟩, RowA.nil _ _ _, fun h => absurd rfl h⟩
    go_enter Tryd.func7, Tryd.ntmps7
    go_wp2
    go_ret
    exact ⟨.slice none 0 0, rfl, hz, Below.refl _ _⟩
  · have h0I : ((n : Int) == 0) = false := by simp; omega
    obtain ⟨q, hq⟩ : ∃ q, A[0]? = some q := ⟨_, List.getElem?_eq_getElem (by rw [HN.out]; omega)⟩
    obtain ⟨b, off, rfl, _⟩ := HC.out 0 q hq
    have hne : A ≠ [] := fun e => by have := HN.out; rw [e] at this; exact h0 this.symm
    have HE : Hid (A ≠ []) := hne
    clear hq hne h0
    have oE := own_empty' w w.heap.size (Nat.le_refl _)
    have bE := (Below.refl w.heap.size w).alloc (Nat.le_refl _) (.cells #[] 48)
    have hM : Hid (∀ (j : Nat) (x : A2), A[j]? = some x → PairAt (w.alloc (.cells #[] 48)) b (off + j * 4) x) := fun j x hx => by
      obtain ⟨b', off', he, h⟩ := HC.out j x hx
      cases he
      exact h.below bE
    have hL0 : ([] : List A2).length + n ≤ 2097152 := by simp; omega
    go_enter Tryd.func7, Tryd.ntmps7
    go_wp2_with (first
      | (at_builtin; refine wpList_append_atx rfl (.tmp 7) (.tmp 8) rfl w.heap.size (.slice (some ⟨w.heap.size, 0, none⟩) 0 0) [] rfl oE b off n cap A rfl HN.out hM.out hL0 bE.size ?_; intro v9 w9 own9 gr9 hat9; have b10 := (bE.grown gr9 bE.size (fun j hj => by simp only [Value.ownBlock, Option.some.injEq] at hj; omega)).alloc (by have h0 := gr9.size; have h1 := bE.size; omega) (.cells #[.string ⟨#[115, 112, 97, 114, 101]⟩, .int .i64 0, .int .i64 0, .string ⟨#[]⟩, .string ⟨#[114, 111, 111, 109]⟩, .int .i64 0, .int .i64 0, .string ⟨#[]⟩] 48); have O9 : Hid (OwnA w9 w.heap.size v9 A) := own9; have O10 : Hid (OwnA (w9.alloc (.cells #[.string ⟨#[115, 112, 97, 114, 101]⟩, .int .i64 0, .int .i64 0, .string ⟨#[]⟩, .string ⟨#[114, 111, 111, 109]⟩, .int .i64 0, .int .i64 0, .string ⟨#[]⟩] 48)) w.heap.size v9 A) := owns_below O9.out ((Below.refl _ _).alloc (Nat.le_refl _) _); have hL1 : Hid (A.length + 2 ≤ 2097152) := (by show _ ≤ _; rw [HN.out]; omega); have hge : Hid (∀ j, v9.ownBlock = some j → w.heap.size ≤ j) := (fun j hj => (owns_block O10.out j hj).1); clear own9 gr9 hat9 oE bE hM O9)
      | (at_builtin; refine wpList_append_atx rfl (.tmp 9) (.tmp 12) rfl w.heap.size v9 A rfl O10.out w9.heap.size 0 2 2 [s1, s2] rfl rfl (two_at ⟨by simp, by simp, by simp, by simp⟩ ⟨by simp, by simp, by simp, by simp⟩) hL1.out b10.size ?_; intro v11 w11 own11 gr11 hat11; have b11 := b10.grown gr11 b10.size (fun j hj => hge.out j hj); obtain ⟨p11, c11, e11, hc11, hr11⟩ := own_rowA own11; rw [show (A ++ [s1, s2]).length = n + 2 by simp [HN.out]] at e11 hc11; subst e11; have HR : Hid _ := hr11; have hcI : n ≤ c11 := (by omega); clear own11 gr11 hat11 O10 b10 hge hr11))
    go_ret
    refine ⟨_, rfl, ⟨?_, ?_, ?_⟩, b11⟩
    · intro m c h
      have hp : p11 = none := by simpa using (Value.slice.inj h).1
      obtain ⟨b', off', he, _⟩ := HR.out n s1 (by rw [List.getElem?_append_right (by rw [HN.out]; omega), HN.out]; simp)
      rw [hp] at he; cases he
    · refine ⟨p11, c11, by rw [HN.out]; rfl, by rw [HN.out]; exact hcI, fun j x hx => HR.out j x ?_⟩
      rw [List.getElem?_append_left (List.getElem?_eq_some_iff.1 hx).1]; exact hx
    · intro _
      exact ⟨p11, c11, by rw [HN.out]; rfl, by rw [HN.out]; exact hc11, ⟨p11, c11, by simp [HN.out], by simp [HN.out]; omega, HR.out⟩⟩
end Go.Proofs.YtigmhbgdnmkooaaDoor

/- The errors' numbers: what vellumnum.list and vellumnum.Num answer where all nineteen sentinels lie as laid. -/
namespace Go.Proofs.YtigmhbgdnmkooaaDoor
open Go Go.RowKit
set_option linter.unusedVariables false

/-- All nineteen. -/
def all19 : List Nat := List.range 19
abbrev Sent (a : Nat → Addr) (w : World) : Prop := Er all19 a w
theorem in19 {i : Nat} (h : i < 19) : i ∈ all19 := List.mem_range.2 h
def errA (a : Nat → Addr) : Array Value := #[errV a 0, errV a 1, errV a 2, errV a 3, errV a 4, errV a 5, errV a 6, errV a 7, errV a 8, errV a 9, errV a 10, errV a 11, errV a 12, errV a 13, errV a 14, errV a 15, errV a 16, errV a 17, errV a 18]

theorem wl_build (a : Nat → Addr) {ops : Array Oper} {rest : List Oper} {o : Oper} {A : Act} {w : World} {Q : Exit → Act → World → Prop} (hg : o.guard = none) (parts : Array (Nat × Operand)) (ho : o.op = .build 60 parts)
    (hp : (parts.map fun (i, x) => (i, A.eval x)) = #[(0, errV a 0), (1, errV a 1), (2, errV a 2), (3, errV a 3), (4, errV a 4), (5, errV a 5), (6, errV a 6), (7, errV a 7), (8, errV a 8), (9, errV a 9), (10, errV a 10), (11, errV a 11), (12, errV a 12), (13, errV a 13), (14, errV a 14), (15, errV a 15), (16, errV a 16), (17, errV a 17), (18, errV a 18)])
    (h : wpList Tryd.prog ops Q rest (A.put o.dst (.agg (errA a))) w) : wpList Tryd.prog ops Q (o :: rest) A w := by
  have hb : Tryd.prog.built 60 (parts.map fun (i, x) => (i, A.eval x)).toList = some (errA a) := by rw [hp]; kernel_rfl
  refine wpList_build hg 60 parts ho (by rw [hb]; rfl) ?_
  rw [hb]; exact h

theorem alloc_setRow (w : World) (old cs : Array Value) (t : TypeId) : (w.alloc (.cells old t)).setRow w.heap.size cs = w.alloc (.cells cs t) := by
  have : ((w.heap.push (.cells old t)).modify w.heap.size fun | .cells _ t f => .cells cs t f | o => o) = w.heap.push (.cells cs t) := by
    apply Array.ext
    · simp
    · intro i h1 h2
      rw [Array.getElem_modify]
      by_cases hi : w.heap.size = i
      · subst hi; simp
      · rw [if_neg hi]
        have : i < w.heap.size := by simp at h2; omega
        simp [Array.getElem_push, this]
  show { w with heap := (w.heap.push (.cells old t)).modify w.heap.size _ } = { w with heap := w.heap.push _ }
  rw [← this]; rfl

theorem wl_store (a : Nat → Addr) {ops : Array Oper} {rest : List Oper} {o : Oper} {A : Act} {w : World} {Q : Exit → Act → World → Prop} {old : Array Value} (hg : o.guard = none) (x y : Operand) (ho : o.op = .store 60 x y)
    (hx : A.eval x = .pointer (some ⟨w.heap.size, 0, none⟩)) (hy : A.eval y = .agg (errA a)) (hold : old.size = 19)
    (h : wpList Tryd.prog ops Q rest (A.put o.dst undef) (w.alloc (.cells (errA a) 60))) : wpList Tryd.prog ops Q (o :: rest) A (w.alloc (.cells old 60)) := by
  refine wpList_store_row hg 60 x y ho w.heap.size (errA a) hx hy 60 old (by show (w.heap.push _)[w.heap.size]? = _; simp) (by kernel_rfl) (by rw [hold]; rfl) (by kernel_rfl) ?_
  rw [alloc_setRow]; exact h

set_option maxHeartbeats 400000 in
set_option maxRecDepth 100000 in
theorem list_any (a : Nat → Addr) (w : World) (h : ∀ i, i < 19 → w.cell? ⟨[2, 3, 4, 5, 6, 7, 0, 1, 8, 9, 10, 11, 12, 13, 14, 15, 16, 17, 18].getD i 0, 0, none⟩ = some (errV a i)) :
    Calls Tryd.prog 34 #[] w fun e w' => e = .returned (.agg (errA a)) ∧ Below w.heap.size w w' := by
  have h0 : w.cell? ⟨2, 0, none⟩ = some (errV a 0) := h 0 (by omega)
  have h1 : w.cell? ⟨3, 0, none⟩ = some (errV a 1) := h 1 (by omega)
  have h2 : w.cell? ⟨4, 0, none⟩ = some (errV a 2) := h 2 (by omega)
  have h3 : w.cell? ⟨5, 0, none⟩ = some (errV a 3) := h 3 (by omega)
  have h4 : w.cell? ⟨6, 0, none⟩ = some (errV a 4) := h 4 (by omega)
  have h5 : w.cell? ⟨7, 0, none⟩ = some (errV a 5) := h 5 (by omega)
  have h6 : w.cell? ⟨0, 0, none⟩ = some (errV a 6) := h 6 (by omega)
  have h7 : w.cell? ⟨1, 0, none⟩ = some (errV a 7) := h 7 (by omega)
  have h8 : w.cell? ⟨8, 0, none⟩ = some (errV a 8) := h 8 (by omega)
  have h9 : w.cell? ⟨9, 0, none⟩ = some (errV a 9) := h 9 (by omega)
  have h10 : w.cell? ⟨10, 0, none⟩ = some (errV a 10) := h 10 (by omega)
  have h11 : w.cell? ⟨11, 0, none⟩ = some (errV a 11) := h 11 (by omega)
  have h12 : w.cell? ⟨12, 0, none⟩ = some (errV a 12) := h 12 (by omega)
  have h13 : w.cell? ⟨13, 0, none⟩ = some (errV a 13) := h 13 (by omega)
  have h14 : w.cell? ⟨14, 0, none⟩ = some (errV a 14) := h 14 (by omega)
  have h15 : w.cell? ⟨15, 0, none⟩ = some (errV a 15) := h 15 (by omega)
  have h16 : w.cell? ⟨16, 0, none⟩ = some (errV a 16) := h 16 (by omega)
  have h17 : w.cell? ⟨17, 0, none⟩ = some (errV a 17) := h 17 (by omega)
  have h18 : w.cell? ⟨18, 0, none⟩ = some (errV a 18) := h 18 (by omega)
  have z0 : 2 < w.heap.size := lt_of_cell h0
  have z1 : 3 < w.heap.size := lt_of_cell h1
  have z2 : 4 < w.heap.size := lt_of_cell h2
  have z3 : 5 < w.heap.size := lt_of_cell h3
  have z4 : 6 < w.heap.size := lt_of_cell h4
  have z5 : 7 < w.heap.size := lt_of_cell h5
  have z6 : 0 < w.heap.size := lt_of_cell h6
  have z7 : 1 < w.heap.size := lt_of_cell h7
  have z8 : 8 < w.heap.size := lt_of_cell h8
  have z9 : 9 < w.heap.size := lt_of_cell h9
  have z10 : 10 < w.heap.size := lt_of_cell h10
  have z11 : 11 < w.heap.size := lt_of_cell h11
  have z12 : 12 < w.heap.size := lt_of_cell h12
  have z13 : 13 < w.heap.size := lt_of_cell h13
  have z14 : 14 < w.heap.size := lt_of_cell h14
  have z15 : 15 < w.heap.size := lt_of_cell h15
  have z16 : 16 < w.heap.size := lt_of_cell h16
  have z17 : 17 < w.heap.size := lt_of_cell h17
  have z18 : 18 < w.heap.size := lt_of_cell h18
  clear h
  go_enter Tryd.func34, Tryd.ntmps34
  go_wp2_with (first | (refine wl_build a rfl _ rfl (by kernel_rfl) ?_) | (refine wl_store a rfl _ _ rfl (by kernel_rfl) (by kernel_rfl) (by kernel_rfl) ?_))
  have hl := run_loadVar_new (P := Tryd.prog) w 60 (errA a) 19 27 Tryd.underlying60 (by kernel_rfl)
  refine bodyPost_ret (v := .agg (errA a)) ?_ rfl ⟨rfl, (Below.refl _ _).alloc (Nat.le_refl _) _⟩
  simp only [results, Tryd.results34]
  simp [asAddr, Act.put, hl]

theorem errA_get (a : Nat → Addr) (k : Nat) (hk : k < 19) : (errA a)[k]? = some (errV a k) := by
  have e : errA a = ((List.range 19).map (errV a)).toArray := rfl
  rw [e]
  simp [hk]

theorem index_arr {A : Array Value} {k : Nat} {v : Value} (hk : k < 19) (hA : A[k]? = some v) (w : World) : (Instr.index 60 (.agg A) (.int .i64 k)).run Tryd.prog w = .ok v w := by
  obtain ⟨i, hi, hs⟩ := Option.map_eq_some_iff.1 (show (Tryd.prog.info? 27).map (·.size) = some 1 by kernel_rfl)
  have hk2 : (0 : Int) ≤ k ∧ (k : Int) < 19 := by omega
  simp [Instr.index, run_underlying Tryd.underlying60, asIntOf, hk2, sizeOf, typeInfo, hi, hs, part, hA]
  omega

theorem num_nil (w : World) : Calls Tryd.prog 8 #[.nilIface] w fun e w' => e = .returned (.int .i64 0) ∧ w' = w := by
  go_enter Tryd.func8, Tryd.ntmps8
  go_wp2
  go_ret
  exact ⟨rfl, rfl⟩

set_option maxHeartbeats 400000 in
theorem num_err {a : Nat → Addr} {w : World} (h : Sent a w) (n : Nat) (hn : n < 19) :
    Calls Tryd.prog 8 #[errV a n] w fun e w' => e = .returned (.int .i64 (n + 1)) ∧ Below w.heap.size w w' := by
  have hcell : ∀ i, i < 19 → w.cell? ⟨[2, 3, 4, 5, 6, 7, 0, 1, 8, 9, 10, 11, 12, 13, 14, 15, 16, 17, 18].getD i 0, 0, none⟩ = some (errV a i) := fun i hi => h.cell i (in19 hi)
  have hnil := eql_nil a n
  have hsame := eql_same a n
  obtain ⟨A, hA⟩ : ∃ A, A = errA a := ⟨_, rfl⟩
  have hAs : A.size = 19 := by rw [hA]; rfl
  have hAg : ∀ k, k < 19 → A[k]? = some (errV a k) := by rw [hA]; exact errA_get a
  go_enter Tryd.func8, Tryd.ntmps8
  go_wp2_with (go_at_call 34; refine (list_any a _ hcell).mono ?_; rintro e w1 ⟨rfl, hb⟩; have h1 := h.below hb; clear hcell h hnil; rw [← hA]; clear hA)
  go_loop [8] (fun i => ∃ k : Nat, k ≤ n ∧ i = .int .i64 k) (fun i => 19 - (intOf i).toNat)
  case atStart => exact ⟨0, Nat.zero_le _, rfl⟩
  case round =>
    obtain ⟨k, hk, rfl⟩ := hrel
    have hAk := hAg k (by omega)
    have hk9 : (k : Int) < 19 := by omega
    have hix := index_arr (A := A) (by omega : k < 19) hAk
    clear hAg hAk
    by_cases hlt : k < n
    · have he := eql_other h1 n k (in19 hn) (in19 (by omega)) (by omega)
      clear h1 hsame
      go_wp2
      go_round
      case rel => exact ⟨k + 1, by omega, by go_num⟩
      case measure => simp [intOf]; omega
    · obtain rfl : k = n := by omega
      clear h1
      go_wp2
      go_ret
      exact ⟨rfl, hb⟩

theorem num_of {a : Nat → Addr} {w : World} (h : Sent a w) (e : Nat) (he : e ≤ 19) :
    Calls Tryd.prog 8 #[errOf a e] w fun r w' => r = .returned (.int .i64 e) ∧ Below w.heap.size w w' := by
  cases e with
  | zero => exact (num_nil w).mono fun r w' ⟨h1, h2⟩ => ⟨h1, by rw [h2]; exact Below.refl _ _⟩
  | succ n => rw [errOf_succ]; exact num_err h n (by omega)
end Go.Proofs.YtigmhbgdnmkooaaDoor

/- vellumhand.Kept and vellumlaw03.same. -/
namespace Go.Proofs.YtigmhbgdnmkooaaDoor
open Go Go.RowKit Go.Lib
set_option linter.unusedVariables false

set_option maxHeartbeats 800000 in
set_option maxRecDepth 100000 in
theorem kept_any (va vb : Value) (A : List A2) (w : World) (hA : HandA w va A) (hB : RowA w vb A) (hl : A.length ≤ 1048576) :
    Calls Tryd.prog 18 #[va, vb] w fun r w' => r = .returned (.bool true) ∧ Below w.heap.size w w' := by
  have cS := refSame_any va vb A A w hA.2.1 hB (by omega) (by omega)
  simp only [decide_true] at cS
  obtain ⟨pb, cb, rfl, hcb⟩ := hB.val
  clear hB
  obtain ⟨n, hn⟩ : ∃ n, A.length = n := ⟨_, rfl⟩
  by_cases h0 : n = 0
  · subst h0
    obtain ⟨pa, ca, rfl, _⟩ := hA.2.1.val
    rw [hn] at cS ⊢
    clear hA hl hn hcb
    go_enter Tryd.func18, Tryd.ntmps18
    go_wp2_with fail
    refine cS.mono ?_; rintro r w2 ⟨rfl, hb2⟩
    go_wp2
    go_ret
    exact ⟨rfl, hb2⟩
  · have h0I : ((n : Int) == 0) = false := by simp; omega
    obtain ⟨p, c, rfl, hc, hr⟩ := hA.2.2 (fun e => h0 (by rw [← hn, e]; rfl))
    obtain ⟨p', c', e', hc', hr'⟩ := hr
    obtain ⟨b, off, hp1, h1⟩ := hr' n s1 (by rw [List.getElem?_append_right (by omega), hn]; simp)
    obtain ⟨b2, off2, hp2, h2⟩ := hr' (n + 1) s2 (by rw [List.getElem?_append_right (by omega), hn]; simp)
    simp only [Value.slice.injEq] at e'
    obtain ⟨rfl, -, rfl⟩ := e'
    subst hp1
    cases hp2
    rw [hn] at cS hl hc hcb ⊢
    have q1 := beq_key (x := ⟨#[115, 112, 97, 114, 101]⟩) (y := ⟨#[115, 112, 97, 114, 101]⟩) true (decide_eq_true rfl)
    have q2 := beq_key (x := ⟨#[114, 111, 111, 109]⟩) (y := ⟨#[114, 111, 111, 109]⟩) true (decide_eq_true rfl)
    have d1 := h1.c0
    have d2 := h2.c0
    simp only at d1 d2
    clear hA hc' hr' h0 h1 h2
    go_enter Tryd.func18, Tryd.ntmps18
    go_wp2_with fail
    refine cS.mono ?_; rintro r w2 ⟨rfl, hb2⟩
    have e1 := (hb2.cell (lt_of_cell d1)).trans d1
    have e2 := (hb2.cell (lt_of_cell d2)).trans d2
    clear d1 d2 cS hn
    go_wp2
    go_ret
    exact ⟨rfl, hb2⟩

theorem samen_any {a : Nat → Addr} (va vb : Value) (L : List A2) (e : Nat) (w : World) (hS : Sent a w) (hA : RowA w va L) (hB : RowA w vb L) (hl : L.length ≤ 4611686018427387904) (he : e ≤ 19) :
    Calls Tryd.prog 13 #[va, errOf a e, vb, .int .i64 e] w fun r w' => r = .returned (.bool true) ∧ Below w.heap.size w w' := by
  have cS := refSame_any va vb L L w hA hB hl hl
  have cN := fun W (hW : Below w.heap.size w W) => from_below hW (num_of (hS.below hW) e he)
  simp only [decide_true] at cS
  obtain ⟨pa, ca, rfl, _⟩ := hA.val
  obtain ⟨pb, cb, rfl, _⟩ := hB.val
  obtain ⟨V, hV⟩ : ∃ V, errOf a e = V := ⟨_, rfl⟩
  rw [hV] at cN ⊢
  clear hA hB hS hl hV
  go_enter Tryd.func13, Tryd.ntmps13
  go_wp2_with fail
  refine cS.mono ?_; rintro r w2 ⟨rfl, hb2⟩
  have cN' := cN _ hb2
  clear cS cN
  go_wp2_with fail
  refine cN'.mono ?_; rintro r w3 ⟨rfl, hb3⟩
  go_wp2
  go_ret
  exact ⟨rfl, hb3⟩
end Go.Proofs.YtigmhbgdnmkooaaDoor

/- What vellumlaw03.lives answers: true. -/
namespace Go.Proofs.YtigmhbgdnmkooaaDoor
open Go Go.RowKit Go.Lib
set_option linter.unusedVariables false

theorem number_any (n : Int) (w : World) : Calls Tryd.prog 63 #[.int .i64 n] w fun e w' => e = .returned (plV (2, n, ⟨#[]⟩)) ∧ Below w.heap.size w w' := by
  have b := (Below.refl w.heap.size w).alloc (Nat.le_refl _) (.cells #[.int .i64 2, .int .i64 n, .string ⟨#[]⟩] 36)
  go_enter Tryd.func63, Tryd.ntmps63
  go_wp2
  exact bodyPost_ret (v := plV (2, n, ⟨#[]⟩)) (by simp [results, Tryd.results63, go_sem]) rfl ⟨rfl, b⟩
theorem one_any (k : ByteArray) (n : Int) (w : World) : Calls Tryd.prog 33 #[.string k, .int .i64 n] w fun e w' => e = .returned (atV (k, 2, n, ⟨#[]⟩)) ∧ Below w.heap.size w w' := by
  have c := fun W => number_any n W
  go_enter Tryd.func33, Tryd.ntmps33
  go_wp2_with fail
  obtain ⟨W0, hW0⟩ : ∃ W0, W0 = w.alloc (.cells #[.string ⟨#[]⟩, .int .i64 0, .int .i64 0, .string ⟨#[]⟩] 48) := ⟨_, rfl⟩
  have r0 : W0.cell? ⟨w.heap.size, 0, none⟩ = some (.string ⟨#[]⟩) := by rw [hW0]; simp
  have r1 : W0.cell? ⟨w.heap.size, 1, none⟩ = some (.int .i64 0) := by rw [hW0]; simp
  have r2 : W0.cell? ⟨w.heap.size, 2, none⟩ = some (.int .i64 0) := by rw [hW0]; simp
  have r3 : W0.cell? ⟨w.heap.size, 3, none⟩ = some (.string ⟨#[]⟩) := by rw [hW0]; simp
  have f0 : W0.frozen? ⟨w.heap.size, 0, none⟩ = false := by rw [hW0]; simp
  have f1 : W0.frozen? ⟨w.heap.size, 1, none⟩ = false := by rw [hW0]; simp
  have f2 : W0.frozen? ⟨w.heap.size, 2, none⟩ = false := by rw [hW0]; simp
  have f3 : W0.frozen? ⟨w.heap.size, 3, none⟩ = false := by rw [hW0]; simp
  have b0 : Below w.heap.size w W0 := by rw [hW0]; exact (Below.refl _ _).alloc (Nat.le_refl _) _
  rw [← hW0]
  clear hW0
  refine (c _).mono ?_; rintro e w1 ⟨rfl, hb⟩
  have s0 := (hb.cell (lt_of_cell r0)).trans r0
  have s1 := (hb.cell (lt_of_cell r1)).trans r1
  have s2 := (hb.cell (lt_of_cell r2)).trans r2
  have s3 := (hb.cell (lt_of_cell r3)).trans r3
  have g0 := (hb.frozen (lt_of_cell r0)).trans f0
  have g1 := (hb.frozen (lt_of_cell r1)).trans f1
  have g2 := (hb.frozen (lt_of_cell r2)).trans f2
  have g3 := (hb.frozen (lt_of_cell r3)).trans f3
  have b1 := b0.trans (hb.mono b0.size)
  clear r0 r1 r2 r3 f0 f1 f2 f3 hb
  go_wp2
  exact bodyPost_ret (v := atV (k, 2, n, ⟨#[]⟩)) (by simp [results, Tryd.results33, go_sem, s0, s1, s2, s3]) rfl ⟨rfl, (((b1.setCell (Nat.le_refl _) _).setCell (Nat.le_refl _) _).setCell (Nat.le_refl _) _).setCell (Nat.le_refl _) _⟩

abbrev kA : ByteArray := ⟨#[97]⟩
abbrev kB : ByteArray := ⟨#[98]⟩
abbrev kC : ByteArray := ⟨#[99]⟩
def LA : List A2 := [(kA, 2, 1, ⟨#[]⟩), (kB, 2, 2, ⟨#[]⟩)]
def LB : List A2 := [(kB, 0, 0, ⟨#[]⟩), (kC, 2, 3, ⟨#[]⟩)]
def LC : List A2 := [(kA, 2, 1, ⟨#[]⟩), (kC, 2, 3, ⟨#[]⟩)]
theorem key_lit (k : ByteArray) (h1 : k.toList.isEmpty = false) (h2 : k.size ≤ 64) (h3 : brk k.data.toList = k.size) : keyG k := ⟨fun h => by rcases h with h | h; (rw [h1] at h; cases h); omega, h3⟩
theorem kgA : keyG kA := key_lit kA (by rw [toList_data]; rfl) (by decide) (by kernel_rfl)
theorem kgB : keyG kB := key_lit kB (by rw [toList_data]; rfl) (by decide) (by kernel_rfl)
theorem kgC : keyG kC := key_lit kC (by rw [toList_data]; rfl) (by decide) (by kernel_rfl)
theorem kAB : kc kA kB < 0 := by decide
theorem kAC : kc kA kC < 0 := by decide
theorem kBC : kc kB kC < 0 := by decide
theorem patA : Pat LA := ⟨fun q hq => by
  simp only [LA, List.mem_cons, List.not_mem_nil, or_false] at hq
  rcases hq with rfl | rfl
  · exact pairE_zero.2 ⟨kgA, chk_num 1⟩
  · exact pairE_zero.2 ⟨kgB, chk_num 2⟩, List.pairwise_cons.2 ⟨fun q hq => by rw [List.mem_singleton.1 hq]; exact kAB, List.pairwise_singleton _ _⟩⟩
theorem patB : Pat LB := ⟨fun q hq => by
  simp only [LB, List.mem_cons, List.not_mem_nil, or_false] at hq
  rcases hq with rfl | rfl
  · exact pairE_zero.2 ⟨kgB, chk_null⟩
  · exact pairE_zero.2 ⟨kgC, chk_num 3⟩, List.pairwise_cons.2 ⟨fun q hq => by rw [List.mem_singleton.1 hq]; exact kBC, List.pairwise_singleton _ _⟩⟩
theorem joinAB : jn (chC false) LA LB = LC := by
  have h1 : ¬ kc kB kB < 0 := by decide
  have h2 : kc kB kB = 0 := by decide
  show joinL _ ((kA, 2, 1, ⟨#[]⟩) :: (kB, 2, 2, ⟨#[]⟩) :: []) ((kB, 0, 0, ⟨#[]⟩) :: (kC, 2, 3, ⟨#[]⟩) :: []) = _
  rw [joinL, if_pos kAB, joinL, if_neg h1, if_pos h2, joinL, joinL]
  simp [fOf, chC, putO, LC, z0]
theorem row2 {w : World} {B : Nat} {q r : A2} (h1 : PairAt w B 0 q) (h2 : PairAt w B 4 r) : RowA w (.slice (some ⟨B, 0, none⟩) 2 2) [q, r] :=
  ⟨some ⟨B, 0, none⟩, 2, rfl, Nat.le_refl _, fun j x hx => ⟨B, 0, rfl, by
    match j, hx with
    | 0, hx => obtain rfl : q = x := by simpa using hx
               exact h1
    | 1, hx => obtain rfl : r = x := by simpa using hx
               exact h2
    | j + 2, hx => simp at hx⟩⟩

set_option maxHeartbeats 1000000 in
theorem lives_any {I : List Nat} {a : Nat → Addr} (w : World) (hI : ∀ i ∈ IX, i ∈ I) (hS : Std I a w) :
    Calls Tryd.prog 6 #[] w fun e w' => e = .returned (.bool true) ∧ Below w.heap.size w w' := by
  have c1 := fun (k : ByteArray) n W => one_any k n W
  have cC := fun va vb W (hW : Below w.heap.size w W) hA hB => comp_ok false va vb LA LB W hI (hS.below hW) hA hB patA.small patB.small (by decide) (both_zero patA.chk patB.chk)
  have cS := fun va vb W hA hB => refSame_any va vb LC LC W hA hB (by decide) (by decide)
  rw [joinAB] at cC
  simp only [decide_true] at cS
  clear hS hI
  go_enter Tryd.func6, Tryd.ntmps6
  go_wp2_with fail
  refine (c1 _ _ _).mono ?_; rintro e w1 ⟨rfl, b1⟩
  go_wp2_with fail
  refine (c1 _ _ _).mono ?_; rintro e w2 ⟨rfl, b2⟩
  have b2' := b1.trans (b2.mono b1.size)
  clear b1 b2
  go_wp2_with fail
  obtain ⟨W2, hW2⟩ : ∃ W2, W2 = w2.alloc (.cells #[.string ⟨#[97]⟩, .int .i64 2, .int .i64 1, .string ⟨#[]⟩, .string ⟨#[98]⟩, .int .i64 2, .int .i64 2, .string ⟨#[]⟩] 48) := ⟨_, rfl⟩
  have pA : RowA W2 (.slice (some ⟨w2.heap.size, 0, none⟩) 2 2) LA := row2 (by rw [hW2]; exact ⟨by simp, by simp, by simp, by simp⟩) (by rw [hW2]; exact ⟨by simp, by simp, by simp, by simp⟩)
  have b3 : Below w.heap.size w W2 := by rw [hW2]; exact b2'.alloc b2'.size _
  rw [← hW2]
  clear hW2 b2'
  refine (c1 _ _ _).mono ?_; rintro e w3 ⟨rfl, b4⟩
  have b5 := b3.trans (b4.mono b3.size)
  have pA3 := pA.below b4
  clear pA b3 b4
  go_wp2_with fail
  obtain ⟨W3, hW3⟩ : ∃ W3, W3 = w3.alloc (.cells #[.string ⟨#[98]⟩, .int .i64 0, .int .i64 0, .string ⟨#[]⟩, .string ⟨#[99]⟩, .int .i64 2, .int .i64 3, .string ⟨#[]⟩] 48) := ⟨_, rfl⟩
  have pB : RowA W3 (.slice (some ⟨w3.heap.size, 0, none⟩) 2 2) LB := row2 (by rw [hW3]; exact ⟨by simp, by simp, by simp, by simp⟩) (by rw [hW3]; exact ⟨by simp, by simp, by simp, by simp⟩)
  have pA4 : RowA W3 (.slice (some ⟨w2.heap.size, 0, none⟩) 2 2) LA := by rw [hW3]; exact pA3.below ((Below.refl _ _).alloc (Nat.le_refl _) _)
  have b6 : Below w.heap.size w W3 := by rw [hW3]; exact b5.alloc b5.size _
  rw [← hW3]
  clear hW3 b5 pA3
  refine (cC _ _ _ b6 pA4 pB).mono ?_; rintro e w4 ⟨v', rfl, own, b7⟩
  have r4 := own_rowA own
  have b8 := b6.trans (b7.mono b6.size)
  clear own b7 b6 pA4 pB cC
  go_wp2_with fail
  refine (c1 _ _ _).mono ?_; rintro e w5 ⟨rfl, b9⟩
  have b10 := b8.trans (b9.mono b8.size)
  have r5 := r4.below b9
  clear b8 b9 r4
  go_wp2_with fail
  refine (c1 _ _ _).mono ?_; rintro e w6 ⟨rfl, b11⟩
  have b12 := b10.trans (b11.mono b10.size)
  have r6 := r5.below b11
  clear b10 b11 r5
  go_wp2_with fail
  obtain ⟨W6, hW6⟩ : ∃ W6, W6 = w6.alloc (.cells #[.string ⟨#[97]⟩, .int .i64 2, .int .i64 1, .string ⟨#[]⟩, .string ⟨#[99]⟩, .int .i64 2, .int .i64 3, .string ⟨#[]⟩] 48) := ⟨_, rfl⟩
  have pC : RowA W6 (.slice (some ⟨w6.heap.size, 0, none⟩) 2 2) LC := row2 (by rw [hW6]; exact ⟨by simp, by simp, by simp, by simp⟩) (by rw [hW6]; exact ⟨by simp, by simp, by simp, by simp⟩)
  have r7 : RowA W6 v' LC := by rw [hW6]; exact r6.below ((Below.refl _ _).alloc (Nat.le_refl _) _)
  have b13 : Below w.heap.size w W6 := by rw [hW6]; exact b12.alloc b12.size _
  rw [← hW6]
  clear hW6 b12 r6
  have cS' := cS _ _ _ r7 pC
  refine cS'.mono ?_; rintro e w7 ⟨rfl, b14⟩
  go_wp2
  go_ret
  exact ⟨rfl, b13.trans (b14.mono b13.size)⟩
end Go.Proofs.YtigmhbgdnmkooaaDoor

/- Of all lists, keys and numbers vellumlaw03.AttrsAsks answers true. -/
namespace Go.Proofs.YtigmhbgdnmkooaaDoor
open Go Go.RowKit Go.Lib Go.Shelf
set_option linter.unusedVariables false

theorem asks_leave (n0 : World) (W : World) (D D' r : Nat) (tmps : Array Value) (hp : tmps[6]? = some (.pointer (some ⟨r, 0, none⟩))) (hc : W.cell? ⟨r, 0, none⟩ = some (.bool false))
    (hK : W.heap[D]? = some (.deferred (some []))) (hK' : W.heap[D']? = some (.deferred (some []))) (hne : D ≠ D') (h1 : n0.heap.size ≤ D) (h2 : n0.heap.size ≤ D') (h3 : n0.heap.size ≤ r) (hb : Below n0.heap.size n0 W) :
    bodyPostM Fence.wide 5 Tryd.prog Tryd.f3 (fun e w' => e = .returned (.bool true) ∧ Below n0.heap.size n0 w') Exit.ret
      { tmps := tmps, defers := [{ target := .collected D', args := #[] }, { target := .collected D, args := #[] }] } (W.setCell ⟨r, 0, none⟩ (.bool true)) := by
  have k1 := (KeepsOthers.setCell W ⟨r, 0, none⟩ (.bool true)).same D' _ hK' rfl
  have k2 := (KeepsOthers.setCell W ⟨r, 0, none⟩ (.bool true)).same D _ hK rfl
  have k3 : ((W.setCell ⟨r, 0, none⟩ (.bool true)).putObj D' (.deferred none)).heap[D]? = some (.deferred (some [])) := (World.putObj_heap_other hne).trans k2
  have c1 := World.cell?_setCell_same' W ⟨r, 0, none⟩ (.bool true) (by rw [hc]; rfl)
  have c2 := cell_kept c1 (grownBy_putObj' _ D' (.deferred none)) (fun r e => by cases e; exact ⟨_, k1, rfl⟩)
  have c3 := cell_kept c2 (grownBy_putObj' _ D (.deferred none)) (fun r e => by cases e; exact ⟨_, k3, rfl⟩)
  refine ⟨by simp, .inl ⟨_, _, rfl, run_takeDeferred k1, by simp, .inl ⟨_, _, rfl, run_takeDeferred k3, ?_⟩⟩⟩
  refine ⟨.bool true, ?_, rfl, ?_⟩
  · simp [results, Tryd.results3, go_sem, hp, c3]
  · exact ((hb.trans ((Below.refl _ W).setCell (p := ⟨r, 0, none⟩) h3 _)).trans (belowK_b (w := n0) (Nat.le_refl _) _ D' _ _ h2 k1 rfl rfl)).trans (belowK_b (w := n0) (Nat.le_refl _) _ D _ _ h1 k3 rfl rfl)
theorem cell_new_l (W : World) (v : Value) (t : TypeId) : (W.alloc (.cells #[v] t)).cell? ⟨W.heap.size, 0, none⟩ = some v ∧ (W.alloc (.cells #[v] t)).frozen? ⟨W.heap.size, 0, none⟩ = false :=
  ⟨by simp, by simp⟩
theorem cell_alloc_l {W : World} {a : Addr} {v : Value} (o : Obj) (h : W.cell? a = some v) : (W.alloc o).cell? a = some v := cell_kept h (World.grownBy_alloc W o none) (fun r e => by cases e)
theorem boxes3 (w : World) (a b c : Value) (ta tb tc : TypeId) (W0 : World) (h : ((w.alloc (.cells #[a] ta)).alloc (.cells #[b] tb)).alloc (.cells #[c] tc) = W0) :
    Below w.heap.size w W0 ∧ W0.heap.size = w.heap.size + 1 + 1 + 1 ∧ W0.cell? ⟨w.heap.size, 0, none⟩ = some a ∧ W0.cell? ⟨w.heap.size + 1, 0, none⟩ = some b ∧ W0.cell? ⟨w.heap.size + 1 + 1, 0, none⟩ = some c ∧
      W0.frozen? ⟨w.heap.size + 1 + 1, 0, none⟩ = false := by
  subst h
  have q0 := cell_new_l w a ta
  have q1 := cell_new_l (w.alloc (.cells #[a] ta)) b tb
  have q2 := cell_new_l ((w.alloc (.cells #[a] ta)).alloc (.cells #[b] tb)) c tc
  simp only [World.size_alloc] at q1 q2
  exact ⟨(((Below.refl _ w).alloc (Nat.le_refl _) _).alloc (by simp) _).alloc (by simp; omega) _, by simp, cell_alloc_l _ (cell_alloc_l _ q0.1), cell_alloc_l _ q1.1, q2.1, q2.2⟩
theorem listE_le10 (nulls : Bool) : ∀ (L : List A2) (pv : Option ByteArray), listE nulls pv L ≤ 10 := fun L => by
  induction L with
  | nil => intro pv; rw [listE]; omega
  | cons q r ih =>
    intro pv
    rw [listE]
    split
    · split
      · omega
      · split
        · exact ih _
        · omega
    · unfold pairE
      split
      · omega
      · split
        · omega
        · exact chk_le _ _ _
theorem ofE_le10 : ∀ L : List A2, ofE L ≤ 10
  | [] => by rw [ofE]; omega
  | q :: r => by
    rw [ofE]
    split
    · exact ofE_le10 r
    · unfold pairE
      split
      · omega
      · split
        · omega
        · exact chk_le _ _ _
theorem ofL_len0 (L : List A2) : (ofL L).length ≤ L.length := by
  have := ofL_len L []
  simpa [ofL] using this

theorem box_new3 (w : World) (a b c x y z : Value) (ta : TypeId) (W1 W0 : World) (h1 : w.alloc (.cells #[a, b, c] ta) = W1) (h : ((W1.setCell ⟨w.heap.size, 0, none⟩ x).setCell ⟨w.heap.size, 1, none⟩ y).setCell ⟨w.heap.size, 2, none⟩ z = W0) :
    Below w.heap.size w W0 ∧ W0.cell? ⟨w.heap.size, 0, none⟩ = some x ∧ W0.cell? ⟨w.heap.size, 1, none⟩ = some y ∧ W0.cell? ⟨w.heap.size, 2, none⟩ = some z := by
  subst h1
  subst h
  refine ⟨((((Below.refl _ w).alloc (Nat.le_refl _) _).setCell (p := ⟨w.heap.size, 0, none⟩) (Nat.le_refl _) _).setCell (p := ⟨w.heap.size, 1, none⟩) (Nat.le_refl _) _).setCell (p := ⟨w.heap.size, 2, none⟩) (Nat.le_refl _) _, ?_, ?_, ?_⟩
  · rw [World.cell?_setCell_other _ _ _ _ (by simp), World.cell?_setCell_other _ _ _ _ (by simp)]
    exact World.cell?_setCell_same' _ _ _ (by simp)
  · rw [World.cell?_setCell_other _ _ _ _ (by simp)]
    exact World.cell?_setCell_same' _ _ _ (by rw [World.cell?_setCell_other _ _ _ _ (by simp)]; simp)
  · exact World.cell?_setCell_same' _ _ _ (by rw [World.cell?_setCell_other _ _ _ _ (by simp), World.cell?_setCell_other _ _ _ _ (by simp)]; simp)

/-- What Get answers. -/
theorem get_any {I : List Nat} {a : Nat → Addr} (v : Value) (L : List A2) (key : ByteArray) (w : World) (hI : ∀ i ∈ IX, i ∈ I) (hS : Std I a w) (hv : RowA w v L) (hs : Small L) (hl : L.length ≤ 1048576) (good got : Bool) (hg : ((listE true none L : Int) == 0) = good) (hgot : (good && (look key L).isSome) = got) :
    Calls Tryd.prog 15 #[v, .string key] w fun r w' => ∃ x, r = .returned (.tuple #[x, .bool got]) ∧ (x = if got then valOf ((look key L).getD z0).1 ((look key L).getD z0).2.1 ((look key L).getD z0).2.2 else .nilIface) ∧ Below w.heap.size w w' := by
  cases hE : listE true none L with
  | zero =>
    rw [hE] at hg
    obtain rfl : good = true := by rw [← hg]; rfl
    refine (get_ok v L key w hI hS hv hs hl hE).mono ?_
    rintro r w' (⟨p, h1, h2, h3⟩ | ⟨h1, h2, h3⟩)
    · rw [h1] at hgot
      obtain rfl : got = true := by rw [← hgot]; rfl
      exact ⟨_, h2, by rw [h1]; rfl, h3⟩
    · rw [h1] at hgot
      obtain rfl : got = false := by rw [← hgot]; rfl
      exact ⟨_, h2, rfl, h3⟩
  | succ e =>
    rw [hE] at hg
    obtain rfl : good = false := by rw [← hg]; simp; omega
    obtain rfl : got = false := by rw [← hgot]; rfl
    exact (get_bad v L key w hI hS hv hs hl e hE).mono fun r w' ⟨h1, h2⟩ => ⟨_, h1, rfl, h2⟩

set_option maxHeartbeats 4000000 in
set_option maxRecDepth 100000 in
theorem asks_short {I : List Nat} {a : Nat → Addr} (va : Value) (L : List A2) (key : ByteArray) (stop : Int) (w : World) (hI : ∀ i ∈ IX, i ∈ I) (hS : Std I a w) (hN : Sent a w) (hv : RowA w va L) (hs : Tiny L) (hl : L.length ≤ 2000) :
    Calls Tryd.prog 3 #[va, .string key, .int .i64 stop] w fun r w' => r = .returned (.bool true) ∧ Below w.heap.size w w' := by
  have sm := tiny_small hs
  obtain ⟨E1, hE1⟩ : ∃ e, listE true none L = e := ⟨_, rfl⟩
  obtain ⟨E2, hE2⟩ : ∃ e, listE false none L = e := ⟨_, rfl⟩
  have l1 : E1 ≤ 19 := by rw [← hE1]; exact Nat.le_trans (listE_le10 _ _ _) (by decide)
  have l2 : E2 ≤ 19 := by rw [← hE2]; exact Nat.le_trans (listE_le10 _ _ _) (by decide)
  obtain ⟨O, hO⟩ : ∃ O, (if ofE L = 0 then ofL L else []) = O := ⟨_, rfl⟩
  have lO : O.length ≤ 2000 := by
    rw [← hO]; split
    · exact Nat.le_trans (ofL_len0 L) hl
    · simp
  have cL : Hid (∀ W, Below w.heap.size w W → Calls Tryd.prog 6 #[] W fun r w' => r = .returned (.bool true) ∧ Below W.heap.size W w') := fun W hW => lives_any W hI (hS.below hW)
  have cA : Hid (∀ W, Below w.heap.size w W → Calls Tryd.prog 7 #[va] W fun r w' => ∃ v', r = .returned v' ∧ HandA w' v' L ∧ Below W.heap.size W w') := fun W hW => hattrs_any va L W (hv.below hW) (by omega)
  have cC1 : Hid (∀ v w0, Below w.heap.size w w0 → RowA w0 v L → ∀ W, Below w0.heap.size w0 W → Calls Tryd.prog 9 #[v, .bool true] W fun r w' => r = .returned (errOf a E1) ∧ Below w0.heap.size w0 w') := fun v w0 h0 h W hW => from_below hW (by have := check_gen v L true W hI ((hS.below h0).below hW) (h.below hW) sm (by omega); rwa [hE1] at this)
  have cC2 : Hid (∀ v w0, Below w.heap.size w w0 → RowA w0 v L → ∀ W, Below w0.heap.size w0 W → Calls Tryd.prog 9 #[v, .bool false] W fun r w' => r = .returned (errOf a E2) ∧ Below w0.heap.size w0 w') := fun v w0 h0 h W hW => from_below hW (by have := check_gen v L false W hI ((hS.below h0).below hW) (h.below hW) sm (by omega); rwa [hE2] at this)
  have cR1 : Hid (∀ w0, Below w.heap.size w w0 → ∀ W, Below w0.heap.size w0 W → Calls Tryd.prog 10 #[va, .bool true] W fun r w' => r = .returned (.int .i64 E1) ∧ Below w0.heap.size w0 w') := fun w0 h0 W hW => from_below hW (by have := ref_check va L true W ((hS.below h0).below hW) ((hv.below h0).below hW) hs (by omega); rwa [hE1] at this)
  have cR2 : Hid (∀ w0, Below w.heap.size w w0 → ∀ W, Below w0.heap.size w0 W → Calls Tryd.prog 10 #[va, .bool false] W fun r w' => r = .returned (.int .i64 E2) ∧ Below w0.heap.size w0 w') := fun w0 h0 W hW => from_below hW (by have := ref_check va L false W ((hS.below h0).below hW) ((hv.below h0).below hW) hs (by omega); rwa [hE2] at this)
  have cR3 : Hid (∀ W, Below w.heap.size w W → Calls Tryd.prog 10 #[va, .bool true] W fun r w' => r = .returned (.int .i64 E1) ∧ Below W.heap.size W w') := fun W hW => by have := ref_check va L true W (hS.below hW) (hv.below hW) hs (by omega); rwa [hE1] at this
  have cN1 : Hid (∀ w0, Below w.heap.size w w0 → ∀ W, Below w0.heap.size w0 W → Calls Tryd.prog 8 #[errOf a E1] W fun r w' => r = .returned (.int .i64 E1) ∧ Below w0.heap.size w0 w') := fun w0 h0 W hW => from_below hW (num_of ((hN.below h0).below hW) _ l1)
  have cN2 : Hid (∀ w0, Below w.heap.size w w0 → ∀ W, Below w0.heap.size w0 W → Calls Tryd.prog 8 #[errOf a E2] W fun r w' => r = .returned (.int .i64 E2) ∧ Below w0.heap.size w0 w') := fun w0 h0 W hW => from_below hW (num_of ((hN.below h0).below hW) _ l2)
  have cO : Hid (∀ v W, Below w.heap.size w W → RowA W v L → Calls Tryd.prog 11 #[v] W fun r w' => ∃ v', r = .returned (.tuple #[v', errOf a (ofE L)]) ∧ RowA w' v' O ∧ Below W.heap.size W w') := fun v W hW h => (attrsOf_any v L W hI (hS.below hW) h sm (by omega)).mono fun r w' ⟨v', h1, h2, h3, h4⟩ => by
    refine ⟨v', h1, ?_, h4⟩
    rw [← hO]
    by_cases h0 : ofE L = 0
    · rw [if_pos h0]; exact own_rowA (h2 h0)
    · rw [if_neg h0, h3 h0]; exact RowA.nil _ _ _
  have cP : Hid (∀ W, Below w.heap.size w W → Calls Tryd.prog 12 #[va] W fun r w' => ∃ v', r = .returned (.tuple #[v', .int .i64 (ofE L)]) ∧ RowA w' v' O ∧ Below W.heap.size W w') := fun W hW => (refOf_any va L W (hS.below hW) (hv.below hW) hs (by omega)).mono fun r w' ⟨v', h1, h2, h4⟩ => ⟨v', h1, by rw [← hO]; exact h2, h4⟩
  have cS : Hid (∀ W v v', Below w.heap.size w W → RowA W v O → RowA W v' O → Calls Tryd.prog 13 #[v, errOf a (ofE L), v', .int .i64 (ofE L)] W fun r w' => r = .returned (.bool true) ∧ Below W.heap.size W w') := fun W v v' hW h h' => samen_any v v' O _ W (hN.below hW) h h' (by omega) (Nat.le_trans (ofE_le10 L) (by decide))
  obtain ⟨good, hgood⟩ : ∃ b : Bool, ((E1 : Int) == 0) = b := ⟨_, rfl⟩
  obtain ⟨there, hthere⟩ : ∃ b : Bool, (look key L).isSome = b := ⟨_, rfl⟩
  obtain ⟨got, hgot⟩ : ∃ b : Bool, (good && there) = b := ⟨_, rfl⟩
  obtain ⟨⟨pk, pn, pt⟩, hP⟩ : ∃ P, (look key L).getD z0 = P := ⟨_, rfl⟩
  have cH : Hid (∀ W, Below w.heap.size w W → Calls Tryd.prog 14 #[va, .string key] W fun r w' => r = .returned (.tuple #[.agg #[.int .i64 pk, .int .i64 pn, .string pt], .bool there]) ∧ Below W.heap.size W w') := fun W hW => by
    have := has_any va L key W (hv.below hW) (by omega)
    rwa [hP, hthere] at this
  have cG : Hid (∀ v W, Below w.heap.size w W → RowA W v L → Calls Tryd.prog 15 #[v, .string key] W fun r w' => ∃ x, r = .returned (.tuple #[x, .bool got]) ∧ (x = if got then valOf pk pn pt else .nilIface) ∧ Below W.heap.size W w') := fun v W hW h => by
    have := get_any v L key W hI (hS.below hW) h sm (by omega) good got (by rw [hE1]; exact hgood) (by rw [hthere]; exact hgot)
    rwa [hP] at this
  have cV : Hid (∀ W, Calls Tryd.prog 16 #[.agg #[.int .i64 pk, .int .i64 pn, .string pt]] W fun e w' => e = .returned (valOf pk pn pt) ∧ Below W.heap.size W w') := fun W => handValue_any (pk, pn, pt) W
  have hT : Hid (toldL L = if good then L else []) := by
    show toldL L = _
    unfold toldL
    rw [hE1, ← hgood]
    cases E1 <;> simp <;> omega
  have cE : Hid (∀ v W, Below w.heap.size w W → RowA W v L → Calls Tryd.prog 17 #[v] W fun r w' => ∃ x, r = .returned (.func (.func 48) #[] #[.pointer (some ⟨x, 0, none⟩)]) ∧ TellAt w' x W.heap.size (toldL L) ∧ W.heap.size ≤ x ∧ Below W.heap.size W w') := fun v W hW h => eachA_call v L W hI (hS.below hW) h sm (by omega)
  have cK : Hid (∀ v W, Below w.heap.size w W → HandA W v L → Calls Tryd.prog 18 #[v, va] W fun r w' => r = .returned (.bool true) ∧ Below W.heap.size W w') := fun v W hW h => kept_any v va L W h (hv.below hW) (by omega)
  have HV : Hid (RowA w va L) := hv
  obtain ⟨pa, ca, rfl, hca⟩ := hv.val
  obtain ⟨n, hn⟩ : ∃ n, L.length = n := ⟨_, rfl⟩
  have HN : Hid (L.length = n) := hn
  rw [hn] at hl hca cA cR1 cR2 cR3 cP cH cK HV ⊢
  have hlI : ¬ (2000 : Int) < (n : Int) := by omega
  have HG : Hid (((E1 : Int) == 0) = good ∧ (good && there) = got ∧ n ≤ 2000) := ⟨hgood, hgot, hl⟩
  obtain ⟨ER, hER⟩ : ∃ e, ofE L = e := ⟨_, rfl⟩
  rw [hER] at cO cP cS
  obtain ⟨Z1, hZ1⟩ : ∃ z, ((E1 : Nat) : Int) = z := ⟨_, rfl⟩
  rw [hZ1] at cR1 cR3 cN1 HG
  obtain ⟨Z2, hZ2⟩ : ∃ z, ((E2 : Nat) : Int) = z := ⟨_, rfl⟩
  rw [hZ2] at cR2 cN2
  obtain ⟨x1, hx1⟩ : ∃ x, errOf a E1 = x := ⟨_, rfl⟩
  rw [hx1] at cC1 cN1
  obtain ⟨x2, hx2⟩ : ∃ x, errOf a E2 = x := ⟨_, rfl⟩
  rw [hx2] at cC2 cN2
  clear hn hS hN hv hs sm hI hE1 hE2 l1 l2 hO lO hgood hthere hgot hP hER hca hl hZ1 hZ2 hx1 hx2
  obtain ⟨W0, hW0⟩ : ∃ W0, ((w.alloc (.cells #[.slice pa n ca] 22)).alloc (.cells #[.int .i64 stop] 3)).alloc (.cells #[.bool false] 4) = W0 := ⟨_, rfl⟩
  obtain ⟨hb0, hsz, hc0, hc1, hc2, hf2⟩ := boxes3 w _ _ _ _ _ _ W0 hW0
  have HB : Hid (∀ W, Below W0.heap.size W0 W → W.cell? ⟨w.heap.size, 0, none⟩ = some (.slice pa n ca) ∧ W.cell? ⟨w.heap.size + 1, 0, none⟩ = some (.int .i64 stop) ∧ W.cell? ⟨w.heap.size + 1 + 1, 0, none⟩ = some (.bool false) ∧ W.frozen? ⟨w.heap.size + 1 + 1, 0, none⟩ = false) := fun W h =>
    ⟨(h.cell (lt_of_cell hc0)).trans hc0, (h.cell (lt_of_cell hc1)).trans hc1, (h.cell (lt_of_cell hc2)).trans hc2, (h.frozen (lt_of_cell hc2)).trans hf2⟩
  have cL0 := cL.out W0 hb0
  have HB0 : Hid (Below w.heap.size w W0 ∧ W0.heap.size = w.heap.size + 1 + 1 + 1) := ⟨hb0, hsz⟩
  clear cL hc0 hc1 hc2 hf2 hb0 hsz
  refine (callsIn_wide (n := 5)).1 ?_
  refine callsIn_of_wp_marks Tryd.func3 rfl trivial ?_ rfl
  simp only [Tryd.ntmps3, List.size_toArray, List.length_cons, List.length_nil, Nat.reduceAdd, Nat.reduceSub, Array.replicate_succ, Array.replicate_zero, List.push_toArray, List.append_toArray, List.nil_append, List.cons_append]
  rw [wpIn_wide]
  go_wp2_with fail
  clear hW0
  refine cL0.mono ?_; rintro r w1 ⟨rfl, b1⟩
  obtain ⟨k0, k1, k2, f2⟩ := HB.out _ b1
  have B1 := HB0.out.1.trans (b1.mono HB0.out.1.size)
  have cA1 := cA.out w1 B1
  clear cL0 cA
  go_wp2_with fail
  refine cA1.mono ?_; rintro r w2 ⟨v8, rfl, h8, b2⟩
  have D2 := b1.trans (b2.mono b1.size)
  have B2 := B1.trans (b2.mono B1.size)
  have H2 : Hid (HandA w2 v8 L) := h8
  have c1 := cC1.out v8 w2 B2 h8.2.1
  have c2 := cC2.out v8 w2 B2 h8.2.1
  have c3 := cR1.out w2 B2
  have c4 := cR2.out w2 B2
  have c5 := cN1.out w2 B2
  have c6 := cN2.out w2 B2
  have HU : Hid (∀ W, Below w2.heap.size w2 W → W.cell? ⟨w.heap.size, 0, none⟩ = some (.slice pa n ca)) := fun W hW => (HB.out W (D2.trans (hW.mono D2.size))).1
  have m2 := HU.out w2 (Below.refl _ _)
  clear k0 k1 k2 f2 h8 b2 b1 cA1 B1 cC1 cC2 cR1 cR2 cN1 cN2
  go_wp2_with fail
  go_region_held3 (fun w' => w'.cell? ⟨w.heap.size, 0, none⟩ = some (.slice pa n ca) ∧ Below w2.heap.size w2 w')
    (exact ⟨by first | (with_reducible assumption) | exact m2, by first | (with_reducible assumption) | exact (Below.refl _ _).drew⟩)
    (first
      | (go_at_call_of 9 (Value.bool false); refine (c2 _ ?_).mono ?_; (· first | (with_reducible assumption) | (apply And.right; with_reducible assumption)); rintro r wD ⟨rfl, bD⟩; have mD := HU.out _ bD)
      | (go_at_call_of 10 (Value.bool false); refine (c4 _ ?_).mono ?_; (· first | (with_reducible assumption) | (apply And.right; with_reducible assumption)); rintro r wF ⟨rfl, bF⟩; have mF := HU.out _ bF)
      | (go_at_call_of 8 x2; refine (c6 _ ?_).mono ?_; (· first | (with_reducible assumption) | (apply And.right; with_reducible assumption)); rintro r wE ⟨rfl, bE⟩; have mE := HU.out _ bE)
      | (go_at_call 9; refine (c1 _ ?_).mono ?_; (· first | (with_reducible assumption) | (apply And.right; with_reducible assumption)); rintro r wA ⟨rfl, bA⟩; have mA := HU.out _ bA)
      | (go_at_call 10; refine (c3 _ ?_).mono ?_; (· first | (with_reducible assumption) | (apply And.right; with_reducible assumption)); rintro r wC ⟨rfl, bC⟩; have mC := HU.out _ bC)
      | (go_at_call 8; refine (c5 _ ?_).mono ?_; (· first | (with_reducible assumption) | (apply And.right; with_reducible assumption)); rintro r wB ⟨rfl, bB⟩; have mB := HU.out _ bB))
  have B3 := B2.trans (bF.mono B2.size)
  have D3 := D2.trans (bF.mono D2.size)
  have H3 : Hid (HandA wF v8 L) := H2.out.below bF
  have cO3 := cO.out _ _ B3 H3.out.2.1
  obtain ⟨k0, k1, k2, f2⟩ := HB.out _ D3
  clear c1 c2 c3 c4 c5 c6 mA mB mC mD mE mF m2 bA bB bC bD bE bF HU H2 D2 B2 cO
  go_wp2_with fail
  refine cO3.mono ?_; rintro r w4 ⟨v9, rfl, h9, b4⟩
  have B4 := B3.trans (b4.mono B3.size)
  have D4 := D3.trans (b4.mono D3.size)
  have H4 : Hid (HandA w4 v8 L ∧ RowA w4 v9 O) := ⟨H3.out.below b4, h9⟩
  have cP4 := cP.out _ B4
  clear cO3 H3 B3 D3 b4 h9 cP k0 k1 k2 f2
  obtain ⟨k0, k1, k2, f2⟩ := HB.out _ D4
  go_wp2_with fail
  refine cP4.mono ?_; rintro r w5 ⟨v10, rfl, h10, b5⟩
  have B5 := B4.trans (b5.mono B4.size)
  have D5 := D4.trans (b5.mono D4.size)
  have H5 : Hid (HandA w5 v8 L ∧ RowA w5 v9 O) := ⟨H4.out.1.below b5, H4.out.2.below b5⟩
  have cS5 := cS.out _ _ _ B5 H5.out.2 h10
  have H5 : Hid (HandA w5 v8 L) := H5.out.1
  clear cP4 H4 B4 D4 b5 h10 cS k0 k1 k2 f2
  go_wp2_with fail
  refine cS5.mono ?_; rintro r w6 ⟨rfl, b6⟩
  have B6 := B5.trans (b6.mono B5.size)
  have D6 := D5.trans (b6.mono D5.size)
  have H6 : Hid (HandA w6 v8 L) := H5.out.below b6
  obtain ⟨k0, k1, k2, f2⟩ := HB.out _ D6
  have cR6 := cR3.out _ B6
  have hgo := HG.out.1
  clear cS5 H5 B5 D5 b6 cR3
  go_wp2_with fail
  refine cR6.mono ?_; rintro r w7 ⟨rfl, b7⟩
  have B7 := B6.trans (b7.mono B6.size)
  have D7 := D6.trans (b7.mono D6.size)
  have H7 : Hid (HandA w7 v8 L) := H6.out.below b7
  clear cR6 H6 B6 D6 b7 k0 k1 k2 f2
  obtain ⟨W8, hW8⟩ : ∃ W8, w7.alloc (.cells #[.bool false] 4) = W8 := ⟨_, rfl⟩
  obtain ⟨W9, hW9⟩ : ∃ W9, W8.setCell ⟨w7.heap.size, 0, none⟩ (.bool good) = W9 := ⟨_, rfl⟩
  obtain ⟨b9, z9, g9, -⟩ := box_new1 w7 _ _ _ W8 W9 hW8 hW9
  have hq1 : W8.cell? ⟨w7.heap.size, 0, none⟩ = some (.bool false) := by rw [← hW8]; simp
  have hq2 : W8.frozen? ⟨w7.heap.size, 0, none⟩ = false := by rw [← hW8]; simp
  have B9 := B7.trans (b9.mono B7.size)
  have D9 := D7.trans (b9.mono D7.size)
  have H9 : Hid (HandA W9 v8 L) := H7.out.below b9
  have cH9 := cH.out _ B9
  obtain ⟨k0, k1, k2, f2⟩ := HB.out _ D9
  go_wp2_with fail
  refine cH9.mono ?_; rintro r w10 ⟨rfl, b10⟩
  have g10 := (b10.cell (lt_of_cell g9)).trans g9
  have B10 := B9.trans (b10.mono B9.size)
  have D10 := D9.trans (b10.mono D9.size)
  have H10 : Hid (HandA w10 v8 L) := H9.out.below b10
  have HL : Hid (W9.heap.size = w7.heap.size + 1 ∧ Below w.heap.size w w7 ∧ Below W9.heap.size W9 w10) := ⟨z9, B7, b10⟩
  clear cH9 cH H9 B9 D9 b10 k0 k1 k2 f2 hq1 hq2 hW8 hW9 g9 b9 z9 B7 D7 H7
  obtain ⟨W11, hW11⟩ : ∃ W11, w10.alloc (.cells #[.int .i64 0, .int .i64 0, .string ⟨#[]⟩] 36) = W11 := ⟨_, rfl⟩
  obtain ⟨W12, hW12⟩ : ∃ W12, ((W11.setCell ⟨w10.heap.size, 0, none⟩ (.int .i64 pk)).setCell ⟨w10.heap.size, 1, none⟩ (.int .i64 pn)).setCell ⟨w10.heap.size, 2, none⟩ (.string pt) = W12 := ⟨_, rfl⟩
  obtain ⟨b12, p0, p1, p2⟩ := box_new3 w10 _ _ _ _ _ _ _ W11 W12 hW11 hW12
  have e0 : W11.cell? ⟨w10.heap.size, 0, none⟩ = some (.int .i64 0) := by rw [← hW11]; simp
  have e1 : W11.cell? ⟨w10.heap.size, 1, none⟩ = some (.int .i64 0) := by rw [← hW11]; simp
  have e2 : W11.cell? ⟨w10.heap.size, 2, none⟩ = some (.string ⟨#[]⟩) := by rw [← hW11]; simp
  have f0 : W11.frozen? ⟨w10.heap.size, 0, none⟩ = false := by rw [← hW11]; simp
  have f1 : W11.frozen? ⟨w10.heap.size, 1, none⟩ = false := by rw [← hW11]; simp
  have f2 : W11.frozen? ⟨w10.heap.size, 2, none⟩ = false := by rw [← hW11]; simp
  have B12 := B10.trans (b12.mono B10.size)
  have D12 := D10.trans (b12.mono D10.size)
  have H12 : Hid (HandA W12 v8 L) := H10.out.below b12
  have g12 := (b12.cell (lt_of_cell g10)).trans g10
  have cG12 := cG.out _ _ B12 H12.out.2.1
  go_wp2_with fail
  refine cG12.mono ?_; rintro r w13 ⟨x, rfl, hx, b13⟩
  have g13 := (b13.cell (lt_of_cell g12)).trans g12
  have m0 := (b13.cell (lt_of_cell p0)).trans p0
  have m1 := (b13.cell (lt_of_cell p1)).trans p1
  have m2 := (b13.cell (lt_of_cell p2)).trans p2
  have B13 := B12.trans (b13.mono B12.size)
  have D13 := D12.trans (b13.mono D12.size)
  have H13 : Hid (HandA w13 v8 L) := H12.out.below b13
  have HX : Hid (x = if got then valOf pk pn pt else .nilIface) := hx
  clear cG12 cG H12 B12 D12 b13 hW11 hW12 g12 b12 g10 B10 D10 H10 e0 e1 e2 f0 f1 f2 p0 p1 p2 hx
  go_upto_region 14 with fail
  go_cut [100] from 78 to 100 (fun x100 wx => x100 = .bool false ∧ Below w13.heap.size w13 wx)
  case first =>
    have hgt := HG.out.2.1
    cases good with
    | false =>
      obtain rfl : got = false := by rw [← hgt]; rfl
      have hx := HX.out
      simp only [Bool.false_eq_true, if_false] at hx
      subst hx
      go_wp2
      go_meet
      case rel => exact ⟨rfl, Below.refl _ _⟩
    | true =>
      cases there with
      | false =>
        obtain rfl : got = false := by rw [← hgt]; rfl
        have hx := HX.out
        simp only [Bool.false_eq_true, if_false] at hx
        subst hx
        go_wp2
        go_meet
        case rel => exact ⟨rfl, Below.refl _ _⟩
      | true =>
        obtain rfl : got = true := by rw [← hgt]; rfl
        have hx := HX.out
        simp only [if_true] at hx
        obtain ⟨b, hb, hne⟩ := neq_vO (key, pk, pn, pt) (key, pk, pn, pt)
        obtain rfl : b = true := hb.2 rfl
        obtain ⟨tx, vx, hv⟩ := vO_if (key, pk, pn, pt)
        rw [hv] at hne
        have hv : valOf pk pn pt = .iface tx vx := hv
        have cV := cV.out w13
        rw [hv] at hx cV
        subst hx
        clear hv hb
        go_wp2_with fail
        refine cV.mono ?_; rintro r w14 ⟨rfl, b14⟩
        clear cV
        go_wp2
        go_meet
        case rel => exact ⟨rfl, b14⟩
  case rest =>
    obtain ⟨rfl, b14⟩ := hcut
    have B14 := B13.trans (b14.mono B13.size)
    have D14 := D13.trans (b14.mono D13.size)
    have H14 : Hid (HandA wc v8 L) := H13.out.below b14
    have g14 := (b14.cell (lt_of_cell g13)).trans g13
    have cE14 := cE.out _ _ B14 H14.out.2.1
    have hnf : ∀ (B : Nat) (W : World), (binOp BinOp.eql 45 (.func (.func 48) #[] #[.pointer (some ⟨B, 0, none⟩)]) .nilFunc).run Tryd.prog W = .ok (.bool false) W := fun _ _ => by kernel_rfl
    clear cE H13 B13 D13 b14 g13 m0 m1 m2 HX
    go_wp2_with fail
    refine cE14.mono ?_; rintro r w15 ⟨Y, rfl, hY, _, b15⟩
    have B15 := B14.trans (b15.mono B14.size)
    have D15 := D14.trans (b15.mono D14.size)
    have H15 : Hid (HandA w15 v8 L) := H14.out.below b15
    have g15 := (b15.cell (lt_of_cell g14)).trans g14
    clear cE14 H14 B14 D14 b15 g14
    go_wp2_with fail
    clear hnf
    obtain ⟨k0, k1, k2, f2⟩ := HB.out _ D15
    have hc : ∀ j q, L[j]? = some q → ∃ b off, pa = some ⟨b, off, none⟩ ∧ PairAt w15 b (off + j * 4) q := fun j q hq => by
      obtain ⟨p', c', e', _, hr⟩ := HV.out.below B15
      simp only [Value.slice.injEq] at e'
      obtain ⟨rfl, -, rfl⟩ := e'
      exact hr j q hq
    have hn1 : n ≤ 1048576 := by have := HG.out.2.2; omega
    refine (wpIn_wide (n := 5)).1 ?_
    refine wpIn_loop_rounds 3 ?_
    rw [roundsIn_succ]
    refine asks_round _ rfl L good (toldL L) hT.out n HN.out hn1 pa ca w.heap.size w7.heap.size Y wc.heap.size stop w15 v8 hc k0 k1 k2 f2 g15 hY 0 (.inl rfl) [] _ ?_
    intro D1 W1 hD1 hK1 b16
    intros
    simp only [Exit.then]
    rw [roundsIn_succ]
    have B16 := B15.trans (b16.mono B15.size)
    have D16 := D15.trans (b16.mono D15.size)
    have H16 : Hid (HandA W1 v8 L) := H15.out.below b16
    have g16 := (b16.cell (lt_of_cell g15)).trans g15
    obtain ⟨k0, k1, k2, f2⟩ := HB.out _ D16
    have hc : ∀ j q, L[j]? = some q → ∃ b off, pa = some ⟨b, off, none⟩ ∧ PairAt W1 b (off + j * 4) q := fun j q hq => by
      obtain ⟨b, off, h1, h2⟩ := hc j q hq
      exact ⟨b, off, h1, h2.below b16⟩
    refine asks_round _ rfl L good (toldL L) hT.out n HN.out hn1 pa ca w.heap.size w7.heap.size Y wc.heap.size stop W1 v8 hc k0 k1 k2 f2 g16 (hY.below b16) (0 + 1) (.inr rfl) _ _ ?_
    intro D2 W2 hD2 hK2 b17
    intros
    simp only [Exit.then]
    rw [roundsIn_succ]
    have B17 := B16.trans (b17.mono B16.size)
    have D17 := D16.trans (b17.mono D16.size)
    have H17 : Hid (HandA W2 v8 L) := H16.out.below b17
    have h1D : D1 < W1.heap.size := (Array.getElem?_eq_some_iff.1 hK1).1
    have h1K : W2.heap[D1]? = some (.deferred (some [])) := (b17.block D1 h1D).trans hK1
    have h2D : W1.heap.size ≤ D2 := hD2
    have cK17 := cK.out _ _ B17 H17.out
    obtain ⟨k0, k1, k2, f2⟩ := HB.out _ D17
    have HK : Hid (W2.heap[D1]? = some (.deferred (some [])) ∧ W2.heap[D2]? = some (.deferred (some [])) ∧ D1 ≠ D2 ∧ w.heap.size ≤ D1 ∧ w.heap.size ≤ D2 ∧ D1 < W2.heap.size ∧ D2 < W2.heap.size) :=
      ⟨h1K, hK2, by omega, Nat.le_trans B15.size hD1, Nat.le_trans B16.size hD2, (Array.getElem?_eq_some_iff.1 h1K).1, (Array.getElem?_eq_some_iff.1 hK2).1⟩
    rw [wpIn_wide]
    clear hc h1D h1K h2D hK1 hK2 hD1 hD2 hY H15 H16 H17 B15 B16 D15 D16 b16 b17 g15 g16
    go_wp2_with fail
    refine cK17.mono ?_; rintro r w18 ⟨rfl, b18⟩
    have B18 := B17.trans (b18.mono B17.size)
    have D18 := D17.trans (b18.mono D17.size)
    obtain ⟨k0, k1, k2, f2⟩ := HB.out _ D18
    clear cK17 D17
    go_wp2
    obtain ⟨q1, q2, q3, q4, q5, q6, q7⟩ := HK.out
    exact asks_leave w w18 D1 D2 _ _ rfl k2 ((b18.block _ q6).trans q1) ((b18.block _ q7).trans q2) q3 q4 q5 (by omega) B18
end Go.Proofs.YtigmhbgdnmkooaaDoor

/- Of all lists, keys and numbers vellumlaw03.AttrsAsks answers true. -/
namespace Go.Proofs.YtigmhbgdnmkooaaDoor
open Go Go.RowKit Go.Lib Go.Shelf
set_option linter.unusedVariables false

set_option maxHeartbeats 2000000 in
set_option maxRecDepth 100000 in
theorem asks_long {I : List Nat} {a : Nat → Addr} (va : Value) (L : List A2) (key : ByteArray) (stop : Int) (w : World) (hI : ∀ i ∈ IX, i ∈ I) (hS : Std I a w) (hv : RowA w va L) (hl : 2000 < L.length) :
    Calls Tryd.prog 3 #[va, .string key, .int .i64 stop] w fun r w' => r = .returned (.bool true) ∧ Below w.heap.size w w' := by
  obtain ⟨p, c, rfl, _⟩ := hv.val
  obtain ⟨n, hn⟩ : ∃ n, L.length = n := ⟨_, rfl⟩
  rw [hn] at hl ⊢
  have hlI : (2000 : Int) < (n : Int) := by omega
  have hlB : decide ((2000 : Int) < (n : Int)) = true := decide_eq_true hlI
  obtain ⟨W0, hW0⟩ : ∃ W0, ((w.alloc (.cells #[.slice p n c] 22)).alloc (.cells #[.int .i64 stop] 3)).alloc (.cells #[.bool false] 4) = W0 := ⟨_, rfl⟩
  obtain ⟨hb0, hsz, hc0, hc1, hc2, hf2⟩ := boxes3 w _ _ _ _ _ _ W0 hW0
  have cL := lives_any W0 hI (hS.below hb0)
  have HB0 : Hid (Below w.heap.size w W0) := hb0
  clear hv hn hS hI hl
  refine (callsIn_wide (n := 5)).1 ?_
  refine callsIn_of_wp_marks Tryd.func3 rfl trivial ?_ rfl
  simp only [Tryd.ntmps3, List.size_toArray, List.length_cons, List.length_nil, Nat.reduceAdd, Nat.reduceSub, Array.replicate_succ, Array.replicate_zero, List.push_toArray, List.append_toArray, List.nil_append, List.cons_append]
  rw [wpIn_wide]
  go_wp2_with fail
  clear hW0
  refine cL.mono ?_; rintro r w1 ⟨rfl, b1⟩
  have k0 := (b1.cell (lt_of_cell hc0)).trans hc0
  have k2 := (b1.cell (lt_of_cell hc2)).trans hc2
  have f2 := (b1.frozen (lt_of_cell hc2)).trans hf2
  have B1 := HB0.out.trans (b1.mono HB0.out.size)
  clear cL b1 hc0 hc1 hc2 hf2 hb0
  go_wp2
  have c1 := World.cell?_setCell_same' w1 ⟨w.heap.size + 1 + 1, 0, none⟩ (.bool true) (by rw [k2]; rfl)
  exact ⟨.bool true, by simp [results, Tryd.results3, go_sem, c1], rfl, B1.setCell (p := ⟨w.heap.size + 1 + 1, 0, none⟩) (by show w.heap.size ≤ w.heap.size + 1 + 1; omega) _⟩
theorem asks_any {I : List Nat} {a : Nat → Addr} (va : Value) (L : List A2) (key : ByteArray) (stop : Int) (w : World) (hI : ∀ i ∈ IX, i ∈ I) (hS : Std I a w) (hN : Sent a w) (hv : RowA w va L) (hs : Tiny L) :
    Calls Tryd.prog 3 #[va, .string key, .int .i64 stop] w fun r w' => r = .returned (.bool true) ∧ Below w.heap.size w w' := by
  by_cases h : L.length ≤ 2000
  · exact asks_short va L key stop w hI hS hN hv hs h
  · exact asks_long va L key stop w hI hS hv (by omega)
end Go.Proofs.YtigmhbgdnmkooaaDoor
