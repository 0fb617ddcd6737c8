/- slices.stableCmpFunc and SortStableFunc at pairs, by their keys. Rows of pairs that are the call's own, and the words of the library's sorts; the firsts of neighbours with one key. slices.Reverse at pairs. slices.CompactFunc at pairs, by their keys. Reverse, SortStableFunc, CompactFunc of a row of the call's own. What attrs.Of answers. The errors' numbers: what vellumnum.list and vellumnum.Num answer where all nineteen sentinels lie as laid. vellumhand.Kept and vellumlaw03.same. What vellumlaw03.lives answers: true. Of all patches of at most 500 pairs vellumlaw03.AttrsOwns answers true. Of all lists vellumlaw03.AttrsOwns answers true. -/
import Derived.Test.YtigmhbgdnmkooaaDoorMgb
import Derived.Test.YtigmhbgdnmkooaaDoorMga
import Derived.Shelf.SlicesQ.Reverse
import Derived.Lib.SliceRun
import Derived.Deep.RegionHeld3
import Derived.Test.YtigmhbgdnmkooaaDoorEr
import Derived.Test.YtigmhbgdnmkooaaDoorPc
import Derived.Test.YtigmhbgdnmkooaaDoorOwr
import Derived.RangeFuncLeaves
import Derived.LoopN

/- slices.stableCmpFunc and SortStableFunc at pairs, by their keys. -/
namespace Go.Proofs.YtigmhbgdnmkooaaDoor
open Go Go.RowKit Go.Lib Go.Sort
set_option linter.unusedVariables false

set_option maxHeartbeats 4000000 in
set_option maxRecDepth 1000000 in
theorem stable_any (hK : ByK) (n blk cap : Nat) (d0 d : Array A2) (w0 w : World) (R : RowK encA 4 w0 blk 0 d0) (hs : d0.size = n) (hz : d.size = n) (S : SWK encA 4 w0 blk 0 d w) (hsz : n < 1152921504606846976) :
    Calls Tryd.prog 69 #[.slice (some ⟨blk, 0, none⟩) n cap, .int .i64 n, .func (.func 41) #[] #[]] w fun e w' => e = .returned (.tuple #[]) ∧ ∃ d', SWK encA 4 w0 blk 0 d' w' ∧ d'.size = n ∧ SL (sg d 0 n) (sg d' 0 n) ∧ Srt (sg d' 0 n) := by
  have CI : Hid (∀ (a b : Nat) (dk : Array A2) (W : World), dk.size = n → a ≤ b → b ≤ n → SWK encA 4 w0 blk 0 dk W → Calls Tryd.prog 77 #[.slice (some ⟨blk, 0, none⟩) n cap, .int .i64 a, .int .i64 b, .func (.func 41) #[] #[]] W fun e w' => e = .returned (.tuple #[]) ∧ ∃ d', Mg a b dk d' ∧ SWK encA 4 w0 blk 0 d' w') := fun a b dk W h1 h2 h3 h4 => by
    have := insertion_any blk cap a b d0 dk w0 W R (by omega) h4 h2 (by omega) (by omega)
    rw [h1] at this
    exact this.mono fun e w' ⟨e1, e2⟩ => ⟨e1, _, insR_mg h2 (by omega), e2⟩
  have CS : Hid (∀ (a m b : Nat) (dk : Array A2) (W : World), a < m → m < b → b ≤ n → dk.size = n → SWK encA 4 w0 blk 0 dk W → Srt (sg dk a m) → Srt (sg dk m b) → Calls Tryd.prog 78 #[.slice (some ⟨blk, 0, none⟩) n cap, .int .i64 a, .int .i64 m, .int .i64 b, .func (.func 41) #[] #[]] W fun e w' => e = .returned (.tuple #[]) ∧ ∃ d', Mg a b dk d' ∧ SWK encA 4 w0 blk 0 d' w') := fun a m b dk W h1 h2 h3 h4 h5 h6 h7 =>
    sym_any hK n blk cap d0 w0 R hs (by omega) (b - a) a m b dk W (Nat.le_refl _) h1 h2 h3 h4 h5 h6 h7
  have S0 : Hid (SWK encA 4 w0 blk 0 d w) := S
  have HZ : Hid (d.size = n) := hz
  clear hK R hs hz S
  go_enter Tryd.func69, Tryd.ntmps69
  go_wp2
  go_loopw [7, 8] (fun x y wr => ∃ (a : Nat) (dk : Array A2), a ≤ n ∧ x = .int .i64 a ∧ y = .int .i64 ((a : Int) + 20) ∧ Hid ((∃ T, a = 20 * T) ∧ SWK encA 4 w0 blk 0 dk wr ∧ dk.size = n ∧ SL (sg d 0 n) (sg dk 0 n) ∧ Blks 20 dk 0 a)) (fun x _ _ => n - (RowKit.intOf x).toNat)
  case atStart => exact ⟨0, d, Nat.zero_le _, rfl, rfl, ⟨0, rfl⟩, S0.out, HZ.out, SL.refl _, blk_none _ _ _⟩
  case round =>
    clear S0
    obtain ⟨a, dk, ha, rfl, rfl, H⟩ := hrel
    by_cases hlt : a + 20 ≤ n
    · have hltI : (a : Int) + 20 ≤ (n : Int) := by omega
      have c1 := CI.out a (a + 20) dk
      rw [show ((a + 20 : Nat) : Int) = (a : Int) + 20 by omega] at c1
      have c1 := fun W hW => c1 W H.out.2.2.1 (by omega) hlt hW
      go_wp2_with fail
      refine (c1 _ H.out.2.1).mono ?_; rintro r w2 ⟨rfl, d2, g2, s2⟩
      have H2 : Hid ((∃ T, a + 20 = 20 * T) ∧ SWK encA 4 w0 blk 0 d2 w2 ∧ d2.size = n ∧ SL (sg d 0 n) (sg d2 0 n) ∧ Blks 20 d2 0 (a + 20)) := by
        obtain ⟨⟨T, hT⟩, _, h3, h4, h5⟩ := H.out
        exact ⟨⟨T + 1, by omega⟩, s2, g2.size.trans h3, h4.trans (g2.whole (by omega) hlt), blk_grow hT g2 (Nat.le_refl _) h5⟩
      clear c1 H g2 s2
      go_wp2
      go_roundw
      case rel => exact ⟨a + 20, d2, hlt, by go_num, by go_num, H2.out⟩
      case measure => simp [RowKit.intOf]; omega
    · have hltI : ¬ (a : Int) + 20 ≤ (n : Int) := by omega
      have c1 := fun W hW => CI.out a n dk W H.out.2.2.1 ha (Nat.le_refl _) hW
      go_wp2_with fail
      refine (c1 _ (by first | exact H.out.2.1 | exact H.out.2.1.drew)).mono ?_; rintro r w2 ⟨rfl, d2, g2, s2⟩
      have H2 : Hid (SWK encA 4 w0 blk 0 d2 w2 ∧ d2.size = n ∧ SL (sg d 0 n) (sg d2 0 n) ∧ Blks 20 d2 0 n) := by
        obtain ⟨⟨T, hT⟩, _, h3, h4, h5⟩ := H.out
        exact ⟨s2, g2.size.trans h3, h4.trans (g2.whole ha (Nat.le_refl _)), blk_grow hT g2 (by omega) h5⟩
      clear c1 H g2 s2
      go_wp2_with fail
      go_loopw [6, 7, 8, 9] (fun x _ _ _ wr => ∃ (s : Nat) (dk : Array A2), 20 ≤ s ∧ s ≤ 2 * n + 40 ∧ x = .int .i64 s ∧ Hid (SWK encA 4 w0 blk 0 dk wr ∧ dk.size = n ∧ SL (sg d 0 n) (sg dk 0 n) ∧ Blks s dk 0 n)) (fun x _ _ _ _ => n - (RowKit.intOf x).toNat)
      case atStart => exact ⟨20, d2, Nat.le_refl _, by omega, rfl, H2.out⟩
      case round =>
        clear H2 hltI hlt ha
        obtain ⟨s, dk, hs1, hs2, rfl, H⟩ := hrel
        by_cases hlt : s < n
        · have hltI : (s : Int) < (n : Int) := by omega
          go_wp2_with fail
          go_loopw [7, 8] (fun x y wr => ∃ (a : Nat) (dk : Array A2), a ≤ n ∧ x = .int .i64 a ∧ y = .int .i64 ((a : Int) + 2 * (s : Int)) ∧ Hid ((∃ T, a = 2 * s * T) ∧ SWK encA 4 w0 blk 0 dk wr ∧ dk.size = n ∧ SL (sg d 0 n) (sg dk 0 n) ∧ Blks (2 * s) dk 0 a ∧ Blks s dk a n)) (fun x _ _ => n - (RowKit.intOf x).toNat)
          case atStart => exact ⟨0, dk, Nat.zero_le _, rfl, by go_num, ⟨0, rfl⟩, H.out.1, H.out.2.1, H.out.2.2.1, blk_none _ _ _, H.out.2.2.2⟩
          case round =>
            clear H
            obtain ⟨a, dk, ha, rfl, rfl, H⟩ := hrel
            by_cases hle : a + 2 * s ≤ n
            · have hleI : (a : Int) + 2 * (s : Int) ≤ (n : Int) := by omega
              have c1 := CS.out a (a + s) (a + 2 * s) dk
              rw [show ((a + 2 * s : Nat) : Int) = (a : Int) + 2 * (s : Int) by omega, show ((a + s : Nat) : Int) = (a : Int) + (s : Int) by omega] at c1
              have c1 := fun W hW => c1 W (by omega) (by omega) hle H.out.2.2.1 hW (blk_srt (t := 0) H.out.2.2.2.2.2 (by omega) (Nat.le_refl _) (by omega)) (blk_srt (t := 1) H.out.2.2.2.2.2 (by omega) (by omega) hle)
              go_wp2_with fail
              refine (c1 _ H.out.2.1).mono ?_; rintro r w3 ⟨rfl, d3, g3, s3⟩
              have H2 : Hid ((∃ T, a + 2 * s = 2 * s * T) ∧ SWK encA 4 w0 blk 0 d3 w3 ∧ d3.size = n ∧ SL (sg d 0 n) (sg d3 0 n) ∧ Blks (2 * s) d3 0 (a + 2 * s) ∧ Blks s d3 (a + 2 * s) n) := by
                obtain ⟨⟨T, hT⟩, _, h3, h4, h5, h6⟩ := H.out
                exact ⟨⟨T + 1, by rw [Nat.mul_add, Nat.mul_one, ← hT]⟩, s3, g3.size.trans h3, h4.trans (g3.whole (by omega) hle), blk_grow hT g3 (Nat.le_refl _) h5, blk_rest g3 rfl h6⟩
              clear c1 H g3 s3
              go_wp2
              go_roundw
              case rel => exact ⟨a + 2 * s, d3, hle, by go_num, by go_num, H2.out⟩
              case measure => simp [RowKit.intOf]; omega
            · have hleI : ¬ (a : Int) + 2 * (s : Int) ≤ (n : Int) := by omega
              by_cases hm : a + s < n
              · have hmI : (a : Int) + (s : Int) < (n : Int) := by omega
                have c1 := CS.out a (a + s) n dk
                rw [show ((a + s : Nat) : Int) = (a : Int) + (s : Int) by omega] at c1
                have c1 := fun W hW => c1 W (by omega) hm (Nat.le_refl _) H.out.2.2.1 hW (blk_srt (t := 0) H.out.2.2.2.2.2 (by omega) (Nat.le_refl _) (by omega)) (blk_srt (t := 1) H.out.2.2.2.2.2 (by omega) (by omega) (Nat.le_refl _))
                go_wp2_with fail
                refine (c1 _ H.out.2.1).mono ?_; rintro r w3 ⟨rfl, d3, g3, s3⟩
                have H2 : Hid (SWK encA 4 w0 blk 0 d3 w3 ∧ d3.size = n ∧ SL (sg d 0 n) (sg d3 0 n) ∧ Blks (2 * s) d3 0 n) := by
                  obtain ⟨⟨T, hT⟩, _, h3, h4, h5, h6⟩ := H.out
                  exact ⟨s3, g3.size.trans h3, h4.trans (g3.whole (by omega) (Nat.le_refl _)), blk_grow hT g3 (by omega) h5⟩
                clear c1 H g3 s3
                go_wp2
                go_roundw
                case rel => exact ⟨2 * s, d3, by omega, by omega, by go_num, H2.out⟩
                case measure => simp [RowKit.intOf]; omega
              · have hmI : ¬ (a : Int) + (s : Int) < (n : Int) := by omega
                have H2 : Hid (SWK encA 4 w0 blk 0 dk wr ∧ dk.size = n ∧ SL (sg d 0 n) (sg dk 0 n) ∧ Blks (2 * s) dk 0 n) := by
                  obtain ⟨⟨T, hT⟩, h2, h3, h4, h5, h6⟩ := H.out
                  exact ⟨h2, h3, h4, blk_last hT h5 h6 ha (by omega)⟩
                clear H
                go_wp2
                go_roundw
                case rel => exact ⟨2 * s, dk, by omega, by omega, by go_num, H2.out⟩
                case measure => simp [RowKit.intOf]; omega
        · have hltI : ¬ (s : Int) < (n : Int) := by omega
          have H2 : Hid (SWK encA 4 w0 blk 0 dk wr ∧ dk.size = n ∧ SL (sg d 0 n) (sg dk 0 n) ∧ Srt (sg dk 0 n)) := ⟨H.out.1, H.out.2.1, H.out.2.2.1, blk_all H.out.2.2.2 (by omega)⟩
          clear H
          go_wp2
          go_end0
          exact ⟨rfl, dk, H2.out⟩
set_option maxRecDepth 1000000 in
theorem sortStable_any (hK : ByK) (n blk cap : Nat) (d : Array A2) (w : World) (R : RowK encA 4 w blk 0 d) (hs : d.size = n) (S : SWK encA 4 w blk 0 d w) (hsz : n < 1152921504606846976) :
    Calls Tryd.prog 40 #[.slice (some ⟨blk, 0, none⟩) n cap, .func (.func 41) #[] #[]] w fun e w' => e = .returned (.tuple #[]) ∧ ∃ d', SWK encA 4 w blk 0 d' w' ∧ d'.size = n ∧ SL (sg d 0 n) (sg d' 0 n) ∧ Srt (sg d' 0 n) := by
  have c := stable_any hK n blk cap d d w w R hs hs S hsz
  clear R S hK
  go_enter Tryd.func40, Tryd.ntmps40
  go_wp2_with fail
  refine c.mono ?_; rintro r w2 ⟨rfl, h2⟩
  go_wp2
  go_end0
  exact ⟨rfl, h2⟩
end Go.Proofs.YtigmhbgdnmkooaaDoor

/- Rows of pairs that are the call's own, and the words of the library's sorts; the firsts of neighbours with one key. -/
namespace Go.Proofs.YtigmhbgdnmkooaaDoor
open Go Go.RowKit Go.Lib Go.Sort
set_option linter.unusedVariables false

/-- What is kept behind a pair with the key p. -/
def keepsR : ByteArray → List A2 → List A2
  | _, [] => []
  | p, q :: t => if q.1 = p then keepsR q.1 t else q :: keepsR q.1 t
theorem firsts_eq : ∀ (n : Nat) (q : A2) (t : List A2), t.length ≤ n → firsts (q :: t) = q :: keepsR q.1 t
  | _, q, [], _ => by rw [firsts, keepsR]
  | 0, q, r :: t, h => by simp at h
  | n + 1, q, r :: t, h => by
    have hn : t.length ≤ n := by simpa using h
    rw [firsts, keepsR]
    by_cases e : q.1 = r.1
    · rw [if_pos e, if_pos e.symm, firsts_eq n q t hn, e]
    · rw [if_neg e, if_neg (fun h => e h.symm), firsts_eq n r t hn]
def lastK : ByteArray → List A2 → ByteArray
  | p, [] => p
  | _, q :: t => lastK q.1 t
theorem keepsR_snoc (y : A2) : ∀ (A : List A2) (p : ByteArray), keepsR p (A ++ [y]) = keepsR p A ++ (if y.1 = lastK p A then [] else [y])
  | [], p => by
    show keepsR p [y] = keepsR p [] ++ _
    rw [keepsR, keepsR, keepsR, lastK, List.nil_append]
  | q :: t, p => by
    rw [List.cons_append, keepsR, keepsR, keepsR_snoc y t q.1, lastK]
    split
    · rfl
    · rfl
theorem lastK_last : ∀ (A : List A2) (p : ByteArray) (x : A2), A.getLast? = some x → lastK p A = x.1
  | [], p, x, h => by simp at h
  | [q], p, x, h => by
    obtain rfl : q = x := by simpa using h
    rfl
  | q :: r :: t, p, x, h => by
    rw [lastK]
    exact lastK_last (r :: t) q.1 x (by rw [List.getLast?_cons_cons] at h; exact h)
/-- One pair more. -/
theorem firsts_take {L : List A2} {k : Nat} {x y : A2} (hx : L[k]? = some x) (hy : L[k + 1]? = some y) : firsts (L.take (k + 2)) = firsts (L.take (k + 1)) ++ (if y.1 = x.1 then [] else [y]) := by
  have hl : k + 1 < L.length := (List.getElem?_eq_some_iff.1 hy).1
  cases L with
  | nil => simp at hl
  | cons q t =>
    have hy' : t[k]? = some y := by simpa using hy
    rw [show k + 2 = (k + 1) + 1 from rfl, List.take_succ_cons, List.take_succ_cons, firsts_eq _ q _ (Nat.le_refl _), firsts_eq _ q _ (Nat.le_refl _), List.take_add_one, hy', Option.toList_some, keepsR_snoc, List.cons_append]
    congr 2
    cases k with
    | zero =>
      obtain rfl : q = x := by simpa using hx
      rfl
    | succ k =>
      rw [lastK_last (t.take (k + 1)) q.1 x]
      rw [List.getLast?_eq_getElem?, List.length_take, Nat.min_eq_left (by simp at hl; omega), List.getElem?_take_of_lt (by omega)]
      simpa using hx
theorem firsts_le (L : List A2) : (firsts L).length ≤ L.length := by
  cases L with
  | nil => rw [firsts]; exact Nat.le_refl _
  | cons q t =>
    rw [firsts_eq _ q t (Nat.le_refl _)]
    have : ∀ (A : List A2) (p : ByteArray), (keepsR p A).length ≤ A.length := by
      intro A
      induction A with
      | nil => intro p; rw [keepsR]; exact Nat.le_refl _
      | cons a A ih =>
        intro p
        rw [keepsR]
        have := ih a.1
        split
        · simp only [List.length_cons]; omega
        · simp only [List.length_cons]; omega
    simp only [List.length_cons]
    have := this t q.1
    omega

theorem own_pairs {w : World} {B g n c : Nat} {L : List A2} (h : OwnA w B (.slice (some ⟨g, 0, none⟩) n c) L) : L.length = n ∧ n ≤ c ∧ g < w.heap.size ∧ B ≤ g ∧ (∃ cur : Array Value, w.heap[g]? = some (.cells cur 48 (0, 0)) ∧ n * 4 ≤ cur.size) ∧ ∀ j x, L[j]? = some x → PairAt w g (j * 4) x := by
  have hr := own_rowA h
  rcases h.2 with ⟨h1, _⟩ | ⟨g', cap, cur, h1, h2, h3, h4, h5, h6, h7⟩
  · cases h1
  · simp only [Value.slice.injEq, Option.some.injEq, Addr.mk.injEq, and_true] at h1
    obtain ⟨rfl, rfl, rfl⟩ := h1
    refine ⟨rfl, h4, (Array.getElem?_eq_some_iff.1 h3).1, h2, ⟨cur, h3, by rw [h6]; exact Nat.mul_le_mul_right _ h4⟩, fun j x hx => ?_⟩
    obtain ⟨p, cc, hv, _, hc⟩ := hr
    simp only [Value.slice.injEq] at hv
    obtain ⟨rfl, _, _⟩ := hv
    obtain ⟨b, off, hp, hat⟩ := hc j x hx
    simp only [Option.some.injEq, Addr.mk.injEq, and_true] at hp
    obtain ⟨rfl, rfl⟩ := hp
    rw [Nat.zero_add] at hat
    exact hat
theorem getB_list {L : List A2} {i : Nat} {q : A2} (h : L[i]? = some q) : L.toArray[i]! = q := by rw [getElem!_def, List.getElem?_toArray, h]
/-- What the sorts ask of a row. -/
theorem rowK_own {w : World} {B g n c : Nat} {L : List A2} (h : OwnA w B (.slice (some ⟨g, 0, none⟩) n c) L) : RowK encA 4 w g 0 L.toArray := by
  obtain ⟨h1, h2, h3, h4, ⟨cur, h5, h6⟩, h7⟩ := own_pairs h
  refine ⟨fun x => rfl, fun x v hv => ?_, fun t ht => ?_, h3⟩
  · simp only [encA, List.mem_cons, List.not_mem_nil, or_false] at hv
    rcases hv with rfl | rfl | rfl | rfl <;> rfl
  · rw [size_flatK] at ht
    have ht' : t < n * 4 := by simpa [h1] using ht
    refine ⟨?_, frozen_of_row w g (0 + t) cur _ h5⟩
    rw [get_flatK _ _ _ _ ht, Nat.zero_add]
    obtain ⟨q, hq⟩ : ∃ q, L[t / 4]? = some q := ⟨_, List.getElem?_eq_getElem (by omega)⟩
    obtain ⟨c0, c1, c2, c3⟩ := h7 _ _ hq
    rw [getB_list hq]
    have e : t = t / 4 * 4 + t % 4 := by omega
    have hm : t % 4 = 0 ∨ t % 4 = 1 ∨ t % 4 = 2 ∨ t % 4 = 3 := by omega
    rcases hm with hm | hm | hm | hm
    · rw [hm]; rw [hm] at e; rw [e]; rw [Nat.add_zero]; exact c0
    · rw [hm]; rw [hm] at e; rw [e]; exact c1
    · rw [hm]; rw [hm] at e; rw [e]; exact c2
    · rw [hm]; rw [hm] at e; rw [e]; exact c3
theorem out_of_swk {w W : World} {g : Nat} {d : Array A2} (h : SWK encA 4 w g 0 d W) : Out g (g + 1) w W := by
  obtain ⟨m, os, rfl⟩ := h
  have hsz : (sortWorldK encA 4 w g 0 m d os).heap = (w.heap.modify g (onCells (putCells id 0 (flatK encA 4 d)))) ++ os := rfl
  refine ⟨rfl, rfl, rfl, by rw [hsz]; simp, fun k hk ho => ?_, fun k cur e fz hc hk => ?_⟩
  · rw [hsz, Array.getElem?_append_left (by simpa using hk), Array.getElem?_modify, if_neg (by omega)]
  · have hlt := (Array.getElem?_eq_some_iff.1 hc).1
    rw [hsz, Array.getElem?_append_left (by simpa using hlt), Array.getElem?_modify]
    by_cases hg : g = k
    · rw [if_pos hg, hc]
      exact ⟨_, rfl, by simp [putCells]⟩
    · rw [if_neg hg]
      exact ⟨cur, hc, rfl⟩
theorem own_out {w W : World} {B g n c m : Nat} {L L' : List A2} (h : OwnA w B (.slice (some ⟨g, 0, none⟩) n c) L) (ho : Out g (g + 1) w W) (hm : L'.length = m) (hn : m ≤ n) (hc : ∀ j x, L'[j]? = some x → PairAt W g (j * 4) x) : OwnA W B (.slice (some ⟨g, 0, none⟩) m c) L' := by
  refine ⟨cellsA_len _, ?_⟩
  rcases h.2 with ⟨h1, _⟩ | ⟨g', cap, cur, h1, h2, h3, h4, h5, h6, h7⟩
  · cases h1
  · simp only [Value.slice.injEq, Option.some.injEq, Addr.mk.injEq, and_true] at h1
    obtain ⟨rfl, rfl, rfl⟩ := h1
    obtain ⟨cur', hb, hs⟩ := ho.shape g cur _ _ h3 (by omega)
    refine Or.inr ⟨g, c, cur', by rw [hm], h2, hb, by omega, h5, by rw [hs]; exact h6, ?_⟩
    have hcl : L'.length * 4 ≤ cur'.size := by rw [hs, h6]; exact Nat.mul_le_mul_right _ (by omega)
    apply List.ext_getElem?
    intro t
    rw [List.getElem?_take]
    by_cases ht : t < L'.length * 4
    · rw [if_pos ht]
      obtain ⟨q, hq⟩ : ∃ q, L'[t / 4]? = some q := ⟨_, List.getElem?_eq_getElem (by omega)⟩
      obtain ⟨c0, c1, c2, c3⟩ := hc _ _ hq
      obtain ⟨k0, k1, k2, k3⟩ := cellsA_get L' (t / 4) q hq
      have cell : ∀ u, W.cell? ⟨g, t, none⟩ = some u → cur'.toList[t]? = some u := fun u hu => by
        simpa [World.cell?, hb] using hu
      have e : t = t / 4 * 4 + t % 4 := by omega
      have hmm : t % 4 = 0 ∨ t % 4 = 1 ∨ t % 4 = 2 ∨ t % 4 = 3 := by omega
      rcases hmm with hmm | hmm | hmm | hmm
      · rw [hmm, Nat.add_zero] at e; rw [← e] at k0 c0; rw [k0]; exact cell _ c0
      · rw [hmm] at e; rw [← e] at k1 c1; rw [k1]; exact cell _ c1
      · rw [hmm] at e; rw [← e] at k2 c2; rw [k2]; exact cell _ c2
      · rw [hmm] at e; rw [← e] at k3 c3; rw [k3]; exact cell _ c3
    · rw [if_neg ht, List.getElem?_eq_none (by rw [cellsA_len]; omega)]
theorem swk_pairs {w W : World} {g : Nat} {d0 d : Array A2} (S : SWK encA 4 w g 0 d W) (R : RowK encA 4 w g 0 d0) (hs : d.size = d0.size) {j : Nat} {x : A2} (hx : d[j]? = some x) : PairAt W g (j * 4) x := by
  have hj := (Array.getElem?_eq_some_iff.1 hx).1
  obtain ⟨x0, x1, x2, x3⟩ := x
  have := (swk_at S R hs j hj (getB_of hx)).1
  exact ⟨this.1, this.2.1, this.2.2.1, this.2.2.2⟩
end Go.Proofs.YtigmhbgdnmkooaaDoor

/- slices.Reverse at pairs. -/
namespace Go.Proofs.YtigmhbgdnmkooaaDoor
open Go Go.RowKit Go.Lib Go.Sort
set_option linter.unusedVariables false

theorem reverse_nil (p : Option Addr) (cap : Nat) (w : World) : Calls Tryd.prog 39 #[.slice p 0 cap] w fun e w' => e = .returned (.tuple #[]) ∧ w' = w := by
  go_enter Tryd.func39, Tryd.ntmps39
  go_wp2
  go_loopw [2, 3] (fun s t wr => s = .int .i64 0 ∧ t = .int .i64 (-1) ∧ wr = w) (fun _ _ _ => 0)
  case atStart => exact ⟨rfl, rfl, rfl⟩
  case round =>
    obtain ⟨rfl, rfl, rfl⟩ := hrel
    go_wp2
    go_end0
    exact ⟨rfl, rfl⟩
set_option maxHeartbeats 4000000 in
set_option maxRecDepth 1000000 in
theorem reverse_any (blk cap : Nat) (d : Array A2) (w : World) (R : RowK encA 4 w blk 0 d) (h0 : 0 < d.size) (hsz : d.size < 4611686018427387904) :
    Calls Tryd.prog 39 #[.slice (some ⟨blk, 0, none⟩) d.size cap] w fun e w' => e = .returned (.tuple #[]) ∧ SWK encA 4 w blk 0 d.reverse w' := by
  have S0 : Hid (SWK encA 4 w blk 0 d w) := SWK.start R.hH
  obtain ⟨n, hn⟩ : ∃ n, d.size = n := ⟨_, rfl⟩
  have HN : Hid (d.size = n) := hn
  rw [hn] at h0 hsz ⊢
  have HR : Hid (RowK encA 4 w blk 0 d) := R
  clear hn R
  go_enter Tryd.func39, Tryd.ntmps39
  go_wp2
  go_loopw [2, 3] (fun s t wr => ∃ (i u : Nat) (dk : Array A2), u < n ∧ s = .int .i64 i ∧ t = .int .i64 u ∧ Hid (SWK encA 4 w blk 0 dk wr ∧ dk.size = n ∧ reverseLoop i u dk = reverseLoop 0 (d.size - 1) d)) (fun s t _ => (RowKit.intOf t).toNat - (RowKit.intOf s).toNat)
  case atStart => exact ⟨0, n - 1, d, by omega, rfl, by rw [show ((n - 1 : Nat) : Int) = (n : Int) - 1 by omega], S0.out, HN.out, by rw [HN.out]⟩
  case round =>
    clear S0
    obtain ⟨l, u, dk, hu, rfl, rfl, H⟩ := hrel
    by_cases hlt : l < u
    · have hltI : (l : Int) < (u : Int) := by omega
      obtain ⟨⟨p0, p1, p2, p3⟩, hX⟩ : ∃ q, dk[l]! = q := ⟨_, rfl⟩
      obtain ⟨⟨q0, q1, q2, q3⟩, hY⟩ : ∃ q, dk[u]! = q := ⟨_, rfl⟩
      have HC6 := swk_at H.out.1 HR.out (by rw [H.out.2.1, HN.out]) l (by rw [H.out.2.1]; omega) hX
      have HD6 := swk_at H.out.1 HR.out (by rw [H.out.2.1, HN.out]) u (by rw [H.out.2.1]; omega) hY
      have HXY : Hid (dk[l]! = (p0, p1, p2, p3) ∧ dk[u]! = (q0, q1, q2, q3)) := ⟨hX, hY⟩
      have HD : Hid (dk.size = n) := H.out.2.1
      have HE : Hid (reverseLoop (l + 1) (u - 1) (swp dk l u) = reverseLoop 0 (d.size - 1) d) := by
        have := H.out.2.2
        rw [reverseLoop, if_pos hlt] at this
        exact this
      have S6 : Hid (SWK encA 4 w blk 0 dk wr) := H.out.1
      obtain ⟨⟨c0, c1, c2, c3⟩, f0, f1, f2, f3⟩ := HC6
      obtain ⟨⟨e0, e1, e2, e3⟩, g0, g1, g2, g3⟩ := HD6
      have bl : (l : Int) < (n : Int) := by omega
      have bu : (u : Int) < (n : Int) := by omega
      have b0 : (0 : Int) ≤ (l : Int) := by omega
      have b1 : (0 : Int) ≤ (u : Int) := by omega
      have n00 : ¬ l * 4 = u * 4 := by omega
      have m00 : ¬ u * 4 = l * 4 := by omega
      have n01 : ¬ l * 4 = u * 4 + 1 := by omega
      have m01 : ¬ u * 4 + 1 = l * 4 := by omega
      have n02 : ¬ l * 4 = u * 4 + 2 := by omega
      have m02 : ¬ u * 4 + 2 = l * 4 := by omega
      have n03 : ¬ l * 4 = u * 4 + 3 := by omega
      have m03 : ¬ u * 4 + 3 = l * 4 := by omega
      have n10 : ¬ l * 4 + 1 = u * 4 := by omega
      have m10 : ¬ u * 4 = l * 4 + 1 := by omega
      have n11 : ¬ l * 4 + 1 = u * 4 + 1 := by omega
      have m11 : ¬ u * 4 + 1 = l * 4 + 1 := by omega
      have n12 : ¬ l * 4 + 1 = u * 4 + 2 := by omega
      have m12 : ¬ u * 4 + 2 = l * 4 + 1 := by omega
      have n13 : ¬ l * 4 + 1 = u * 4 + 3 := by omega
      have m13 : ¬ u * 4 + 3 = l * 4 + 1 := by omega
      have n20 : ¬ l * 4 + 2 = u * 4 := by omega
      have m20 : ¬ u * 4 = l * 4 + 2 := by omega
      have n21 : ¬ l * 4 + 2 = u * 4 + 1 := by omega
      have m21 : ¬ u * 4 + 1 = l * 4 + 2 := by omega
      have n22 : ¬ l * 4 + 2 = u * 4 + 2 := by omega
      have m22 : ¬ u * 4 + 2 = l * 4 + 2 := by omega
      have n23 : ¬ l * 4 + 2 = u * 4 + 3 := by omega
      have m23 : ¬ u * 4 + 3 = l * 4 + 2 := by omega
      have n30 : ¬ l * 4 + 3 = u * 4 := by omega
      have m30 : ¬ u * 4 = l * 4 + 3 := by omega
      have n31 : ¬ l * 4 + 3 = u * 4 + 1 := by omega
      have m31 : ¬ u * 4 + 1 = l * 4 + 3 := by omega
      have n32 : ¬ l * 4 + 3 = u * 4 + 2 := by omega
      have m32 : ¬ u * 4 + 2 = l * 4 + 3 := by omega
      have n33 : ¬ l * 4 + 3 = u * 4 + 3 := by omega
      have m33 : ¬ u * 4 + 3 = l * 4 + 3 := by omega
      clear hX hY H hu
      go_wp2_with fail
      have S3 : Hid (SWK encA 4 w blk 0 (swp dk l u) (((((((((wr.setCell ⟨blk, l * 4, none⟩ (.string q0)).setCell ⟨blk, l * 4 + 1, none⟩ (.int .i64 q1)).setCell ⟨blk, l * 4 + 2, none⟩ (.int .i64 q2)).setCell ⟨blk, l * 4 + 3, none⟩ (.string q3)).setCell ⟨blk, u * 4, none⟩ (.string p0)).setCell ⟨blk, u * 4 + 1, none⟩ (.int .i64 p1)).setCell ⟨blk, u * 4 + 2, none⟩ (.int .i64 p2)).setCell ⟨blk, u * 4 + 3, none⟩ (.string p3)).drew)) := by
        have h := S6.out.swapped HR.out l u (by rw [HD.out]; omega) (by rw [HD.out]; omega)
        rw [HXY.out.1, HXY.out.2, Nat.zero_add, Nat.zero_add, setCells4, setCells4] at h
        simp only [setCell_drew]
        exact h
      go_big_region
      generalize ((((((((wr.setCell ⟨blk, l * 4, none⟩ (.string q0)).setCell ⟨blk, l * 4 + 1, none⟩ (.int .i64 q1)).setCell ⟨blk, l * 4 + 2, none⟩ (.int .i64 q2)).setCell ⟨blk, l * 4 + 3, none⟩ (.string q3)).setCell ⟨blk, u * 4, none⟩ (.string p0)).setCell ⟨blk, u * 4 + 1, none⟩ (.int .i64 p1)).setCell ⟨blk, u * 4 + 2, none⟩ (.int .i64 p2)).setCell ⟨blk, u * 4 + 3, none⟩ (.string p3)).drew = w5 at S3 ⊢
      go_wp2
      go_roundw
      case rel => exact ⟨l + 1, u - 1, _, by omega, by go_num, by rw [show ((u - 1 : Nat) : Int) = (u : Int) - 1 by omega], S3.out, by rw [size_swp]; exact HD.out, HE.out⟩
      case measure => simp [RowKit.intOf]; omega
    · have hltI : ¬ (l : Int) < (u : Int) := by omega
      have HS : Hid (SWK encA 4 w blk 0 d.reverse wr) := by
        have h := H.out.2.2
        rw [reverseLoop, if_neg hlt] at h
        have := H.out.1
        rw [h, Lib.reverseLoop_reverse] at this
        exact this
      clear H
      go_wp2
      go_end0
      exact ⟨rfl, HS.out⟩
end Go.Proofs.YtigmhbgdnmkooaaDoor

/- slices.CompactFunc at pairs, by their keys. -/
namespace Go.Proofs.YtigmhbgdnmkooaaDoor
open Go Go.RowKit Go.Lib Go.Sort
set_option linter.unusedVariables false

/-- clear of a slice of pairs that isn't empty: stores of zeroes from its place on. -/
theorem run_clear_at (w : World) (b o n c : Nat) (hn : 0 < n) (hc : ∀ j, j < n * 4 → (w.cell? ⟨b, o + j, none⟩).isSome = true) (hf : ∀ j, j < n * 4 → w.frozen? ⟨b, o + j, none⟩ = false) :
    ∃ zs : List Value, zs.length = n * 4 ∧ ∀ ty, (Builtin.clear_ #[22] ty #[.slice (some ⟨b, o, none⟩) n c]).run Tryd.prog w = .ok (.tuple #[]) (w.setCells b o zs) := by
  obtain ⟨i, z, hi, hz, hz1, hz2, hz3⟩ := infoAt
  have hv : ∀ w, (zeroValue 48).run Tryd.prog w = .ok (.agg #[.string ⟨#[]⟩, .int .i64 0, .int .i64 0, .string ⟨#[]⟩]) w := fun w => by kernel_rfl
  have hlen : (Builtin.zeroCells (Value.agg #[.string ⟨#[]⟩, .int .i64 0, .int .i64 0, .string ⟨#[]⟩]).cells n).toList.length = n * 4 := by
    simp [Builtin.zeroCells, Value.cells]
  have hone : ∀ v ∈ (Builtin.zeroCells (Value.agg #[.string ⟨#[]⟩, .int .i64 0, .int .i64 0, .string ⟨#[]⟩]).cells n).toList, v.oneCell' = true := fun v hv => by
    simp only [Builtin.zeroCells, Array.toList_map, List.mem_map] at hv
    obtain ⟨j, _, rfl⟩ := hv
    have : j % 4 = 0 ∨ j % 4 = 1 ∨ j % 4 = 2 ∨ j % 4 = 3 := by omega
    show ((#[.string ⟨#[]⟩, .int .i64 0, .int .i64 0, .string ⟨#[]⟩] : Array Value)[j % 4]!).oneCell' = true
    rcases this with h | h | h | h <;> (rw [h]; rfl)
  have hst := run_storeCells_cells (P := Tryd.prog) b o (Builtin.zeroCells (Value.agg #[.string ⟨#[]⟩, .int .i64 0, .int .i64 0, .string ⟨#[]⟩]).cells n).toList 0 w (fun c hc' => by rw [Nat.add_zero]; exact hc c (by omega)) (fun c hc' => by rw [Nat.add_zero]; exact hf c (by omega)) hone
  rw [Nat.add_zero] at hst
  refine ⟨_, hlen, fun ty => ?_⟩
  obtain ⟨m, rfl⟩ : ∃ m, n = m + 1 := ⟨n - 1, by omega⟩
  simp [Builtin.clear_, run_underlying Tryd.underlying22, hv, hst]
theorem out_setCells {lo hi : Nat} {w : World} {g : Nat} (h1 : lo ≤ g) (h2 : g < hi) : ∀ (vs : List Value) (o : Nat) (W : World), Out lo hi w W → Out lo hi w (W.setCells g o vs)
  | [], o, W, h => h
  | v :: r, o, W, h => out_setCells h1 h2 r (o + 1) _ (h.setCell g o v h1 h2)
theorem pair_setCells {W : World} {g j o : Nat} {vs : List Value} {x : A2} (h : PairAt W g (j * 4) x) (hj : j * 4 + 4 ≤ o) : PairAt (W.setCells g o vs) g (j * 4) x :=
  ⟨(World.cell?_setCells_out g vs o W ⟨g, _, none⟩ (fun _ _ => Or.inl (show j * 4 < o by omega))).trans h.c0, (World.cell?_setCells_out g vs o W ⟨g, _, none⟩ (fun _ _ => Or.inl (show j * 4 + 1 < o by omega))).trans h.c1, (World.cell?_setCells_out g vs o W ⟨g, _, none⟩ (fun _ _ => Or.inl (show j * 4 + 2 < o by omega))).trans h.c2, (World.cell?_setCells_out g vs o W ⟨g, _, none⟩ (fun _ _ => Or.inl (show j * 4 + 3 < o by omega))).trans h.c3⟩

theorem cell_aty {w : World} {g : Nat} {cur : Array Value} {e : TypeId} (h : w.heap[g]? = some (.cells cur e (0, 0))) (j : Nat) (hj : j < cur.size) : ∃ u, w.cell? ⟨g, j, none⟩ = some u :=
  ⟨cur[j], by simp [World.cell?, h, hj]⟩
theorem out_set4y {lo hi : Nat} {w W : World} (h : Out lo hi w W) {g : Nat} (h1 : lo ≤ g) (h2 : g < hi) (a b c d : Nat) (u0 u1 u2 u3 : Value) :
    Out lo hi w ((((W.setCell ⟨g, a, none⟩ u0).setCell ⟨g, b, none⟩ u1).setCell ⟨g, c, none⟩ u2).setCell ⟨g, d, none⟩ u3) :=
  (((h.setCell g a u0 h1 h2).setCell g b u1 h1 h2).setCell g c u2 h1 h2).setCell g d u3 h1 h2
theorem offs_ne {g a b : Nat} (h : a ≠ b) : (⟨g, a, none⟩ : Addr) ≠ ⟨g, b, none⟩ := fun e => h (congrArg Addr.off e)
theorem pair_set4_other {W : World} {g o j : Nat} {x : A2} (h : PairAt W g (j * 4) x) (hj : j * 4 + 4 ≤ o ∨ o + 4 ≤ j * 4) (u0 u1 u2 u3 : Value) : PairAt ((((W.setCell ⟨g, o, none⟩ u0).setCell ⟨g, o + 1, none⟩ u1).setCell ⟨g, o + 2, none⟩ u2).setCell ⟨g, o + 3, none⟩ u3) g (j * 4) x := by
  have c : ∀ i, i < 4 → ((((W.setCell ⟨g, o, none⟩ u0).setCell ⟨g, o + 1, none⟩ u1).setCell ⟨g, o + 2, none⟩ u2).setCell ⟨g, o + 3, none⟩ u3).cell? ⟨g, j * 4 + i, none⟩ = W.cell? ⟨g, j * 4 + i, none⟩ := fun i hi => by
    rw [World.cell?_setCell_other _ _ _ _ (offs_ne (by omega)), World.cell?_setCell_other _ _ _ _ (offs_ne (by omega)), World.cell?_setCell_other _ _ _ _ (offs_ne (by omega)), World.cell?_setCell_other _ _ _ _ (offs_ne (by omega))]
  exact ⟨(c 0 (by omega)).trans h.c0, (c 1 (by omega)).trans h.c1, (c 2 (by omega)).trans h.c2, (c 3 (by omega)).trans h.c3⟩
theorem pair_set4_same {W : World} {g o : Nat} {e0 e1 e2 e3 : Value} (h0 : W.cell? ⟨g, o, none⟩ = some e0) (h1 : W.cell? ⟨g, o + 1, none⟩ = some e1) (h2 : W.cell? ⟨g, o + 2, none⟩ = some e2) (h3 : W.cell? ⟨g, o + 3, none⟩ = some e3) (x : A2) :
    PairAt ((((W.setCell ⟨g, o, none⟩ (.string x.1)).setCell ⟨g, o + 1, none⟩ (.int .i64 x.2.1)).setCell ⟨g, o + 2, none⟩ (.int .i64 x.2.2.1)).setCell ⟨g, o + 3, none⟩ (.string x.2.2.2)) g o x := by
  refine ⟨?_, ?_, ?_, ?_⟩
  · rw [World.cell?_setCell_other _ _ _ _ (offs_ne (by omega)), World.cell?_setCell_other _ _ _ _ (offs_ne (by omega)), World.cell?_setCell_other _ _ _ _ (offs_ne (by omega)), World.cell?_setCell_same' _ _ _ (by rw [h0]; rfl)]
  · rw [World.cell?_setCell_other _ _ _ _ (offs_ne (by omega)), World.cell?_setCell_other _ _ _ _ (offs_ne (by omega)), World.cell?_setCell_same' _ _ _ (by rw [World.cell?_setCell_other _ _ _ _ (offs_ne (by omega)), h1]; rfl)]
  · rw [World.cell?_setCell_other _ _ _ _ (offs_ne (by omega)), World.cell?_setCell_same' _ _ _ (by rw [World.cell?_setCell_other _ _ _ _ (offs_ne (by omega)), World.cell?_setCell_other _ _ _ _ (offs_ne (by omega)), h2]; rfl)]
  · rw [World.cell?_setCell_same' _ _ _ (by rw [World.cell?_setCell_other _ _ _ _ (offs_ne (by omega)), World.cell?_setCell_other _ _ _ _ (offs_ne (by omega)), World.cell?_setCell_other _ _ _ _ (offs_ne (by omega)), h3]; rfl)]
/-- A list's pairs, one behind the other from a block's head on. -/
def PairsAt (w : World) (g : Nat) (L : List A2) : Prop := ∀ j x, L[j]? = some x → PairAt w g (j * 4) x
theorem compact_few (p : Option Addr) (n cap : Nat) (w : World) (hn : n < 2) : Calls Tryd.prog 42 #[.slice p n cap, .func (.func 43) #[] #[]] w fun e w' => e = .returned (.slice p n cap) ∧ w' = w := by
  have hnI : (n : Int) < 2 := by omega
  go_enter Tryd.func42, Tryd.ntmps42
  go_wp2
  go_ret
  exact ⟨rfl, rfl⟩
set_option maxHeartbeats 4000000 in
set_option maxRecDepth 1000000 in
theorem compact_any (g n cap : Nat) (L : List A2) (w : World) (hL : L.length = n) (hcap : n ≤ cap) (hn : 2 ≤ n) (hsz : n < 4611686018427387904) (hb : ∃ cur : Array Value, w.heap[g]? = some (.cells cur 48 (0, 0)) ∧ n * 4 ≤ cur.size) (hc : PairsAt w g L) :
    Calls Tryd.prog 42 #[.slice (some ⟨g, 0, none⟩) n cap, .func (.func 43) #[] #[]] w fun e w' => e = .returned (.slice (some ⟨g, 0, none⟩) (firsts L).length cap) ∧ Out g (g + 1) w w' ∧ PairsAt w' g (firsts L) := by
  have cK : Hid (∀ (x y : A2) (W : World), Calls Tryd.prog 43 #[atV x, atV y] W fun e w' => e = .returned (.bool (decide (x.1 = y.1))) ∧ Below W.heap.size W w') := fun x y W => (sameKey_any x y W).mono fun e w' ⟨h1, h2⟩ => ⟨h1, by rw [h2]; exact ((Below.refl _ _).alloc (Nat.le_refl _) _).alloc (by rw [World.size_alloc]; omega) _⟩
  have HB : Hid ((∃ cur : Array Value, w.heap[g]? = some (.cells cur 48 (0, 0)) ∧ n * 4 ≤ cur.size) ∧ g < w.heap.size) := ⟨hb, by obtain ⟨cur, h, _⟩ := hb; exact (Array.getElem?_eq_some_iff.1 h).1⟩
  have HC : Hid (PairsAt w g L) := hc
  have HL : Hid (L.length = n) := hL
  have hnI : ¬ (n : Int) < 2 := by omega
  have hnB : decide ((n : Int) < 2) = false := decide_eq_false hnI
  have eg := enters_of Tryd.func43 (by kernel_rfl) rfl
  clear hb hc hL
  go_enter Tryd.func42, Tryd.ntmps42
  go_wp2
  clear hnI hnB
  go_loopw [5] (fun s wr => ∃ (k : Nat), 1 ≤ k ∧ k ≤ n ∧ s = .int .i64 (k : Int) ∧ Below w.heap.size w wr ∧ Hid (firsts (L.take k) = L.take k)) (fun s _ => n - (RowKit.intOf s).toNat)
  case atStart => exact ⟨1, Nat.le_refl _, by omega, rfl, Below.refl _ _, by
    show firsts (L.take 1) = L.take 1
    cases hl : L with
    | nil => rw [List.take_nil, firsts]
    | cons a t => rw [List.take_succ_cons, List.take_zero, firsts]⟩
  case round =>
    obtain ⟨k, hk1, hkn, rfl, hbw, HF⟩ := hrel
    by_cases hlt : k < n
    · have hltI : (k : Int) < (n : Int) := by omega
      obtain ⟨l, hl⟩ : ∃ l, k = l + 1 := ⟨k - 1, by omega⟩
      have HU : Hid (k = l + 1) := hl
      obtain ⟨⟨y0, y1, y2, y3⟩, hy⟩ : ∃ q, L[l]? = some q := ⟨_, List.getElem?_eq_getElem (by rw [HL.out]; omega)⟩
      obtain ⟨⟨x0, x1, x2, x3⟩, hx⟩ : ∃ q, L[k]? = some q := ⟨_, List.getElem?_eq_getElem (by rw [HL.out]; omega)⟩
      have HXY : Hid (L[l]? = some (y0, y1, y2, y3) ∧ L[k]? = some (x0, x1, x2, x3)) := ⟨hy, hx⟩
      have HX : Hid (∀ w', Below w.heap.size w w' → (w'.cell? ⟨g, k * 4, none⟩ = some (.string x0) ∧ w'.cell? ⟨g, k * 4 + 1, none⟩ = some (.int .i64 x1) ∧ w'.cell? ⟨g, k * 4 + 2, none⟩ = some (.int .i64 x2) ∧ w'.cell? ⟨g, k * 4 + 3, none⟩ = some (.string x3) ∧ w'.cell? ⟨g, l * 4, none⟩ = some (.string y0) ∧ w'.cell? ⟨g, l * 4 + 1, none⟩ = some (.int .i64 y1) ∧ w'.cell? ⟨g, l * 4 + 2, none⟩ = some (.int .i64 y2) ∧ w'.cell? ⟨g, l * 4 + 3, none⟩ = some (.string y3))) := fun w' hw => by
        obtain ⟨a0, a1, a2, a3⟩ := (HC.out _ _ hx).below hw
        obtain ⟨a4, a5, a6, a7⟩ := (HC.out _ _ hy).below hw
        exact ⟨a0, a1, a2, a3, a4, a5, a6, a7⟩
      have cS : ∀ W, Below w.heap.size w W → Calls Tryd.prog 43 #[atV (x0, x1, x2, x3), atV (y0, y1, y2, y3)] W fun e w' => e = .returned (.bool (decide (x0 = y0))) ∧ Below w.heap.size w w' := fun W hW => (cK.out (x0, x1, x2, x3) (y0, y1, y2, y3) W).mono fun e w' ⟨h1, h2⟩ => ⟨h1, hW.trans (h2.mono hW.size)⟩
      obtain ⟨c0, c1, c2, c3, e0, e1, e2, e3⟩ := HX.out _ hbw
      have b1 : (0 : Int) ≤ (k : Int) := by omega
      have ew : IntKind.i64.wrap ((k : Int) - 1) = (k : Int) - 1 := by rw [IntKind.wrap_i64]; omega
      have en : ((k : Int) - 1).toNat = l := by omega
      have b2 : (1 : Int) ≤ (k : Int) := by omega
      have b3 : (0 : Int) ≤ (k : Int) - 1 := by omega
      have b4 : (k : Int) - 1 < (n : Int) := by omega
      clear hy hx hl
      by_cases hk : x0 = y0
      · subst hk
        simp only [decide_true] at cS
        have hcn : ¬ cap = k := by omega
        have b5 : (k : Int) ≤ (n : Int) := by omega
        have b6 : (k : Int) ≤ (cap : Int) := by omega
        have b7 : (n : Int) ≤ (cap : Int) := by omega
        go_wp2_with fail
        go_region_held3 (fun w' => (w'.cell? ⟨g, k * 4, none⟩ = some (.string x0) ∧ w'.cell? ⟨g, k * 4 + 1, none⟩ = some (.int .i64 x1) ∧ w'.cell? ⟨g, k * 4 + 2, none⟩ = some (.int .i64 x2) ∧ w'.cell? ⟨g, k * 4 + 3, none⟩ = some (.string x3) ∧ w'.cell? ⟨g, l * 4, none⟩ = some (.string x0) ∧ w'.cell? ⟨g, l * 4 + 1, none⟩ = some (.int .i64 y1) ∧ w'.cell? ⟨g, l * 4 + 2, none⟩ = some (.int .i64 y2) ∧ w'.cell? ⟨g, l * 4 + 3, none⟩ = some (.string y3)) ∧ Below w.heap.size w w')
          (exact ⟨by first | (with_reducible assumption) | (simp [*]; done), by first | (with_reducible assumption) | exact hbw.drew⟩)
          (first | (go_at_call 43; refine (cS _ ?_).mono ?_; (· first | assumption | (apply And.right; assumption)); rintro r1 w3 ⟨rfl, s3⟩; have mm := HX.out _ s3))
        clear c0 c1 c2 c3 e0 e1 e2 e3 mm
        go_wp2_with fail
        have HF2 : Hid ((firsts (L.take (k + 1))).length = k ∧ firsts (L.take (k + 1)) = L.take k) := by
          obtain ⟨h1, h2⟩ := HXY.out
          have h3 := HF.out
          have hu := HU.out
          have h4 : firsts (L.take (k + 1)) = L.take k := by
            rw [hu] at h2 h3 ⊢
            rw [firsts_take h1 h2, if_pos rfl, h3, List.append_nil]
          exact ⟨by rw [h4, List.length_take, HL.out]; omega, h4⟩
        have HS3 : Hid (Below w.heap.size w w3) := s3
        clear HF s3 cS hcn b5 b6 ew en b2 b3 b4
        go_loopw [5, 7] (fun s t wr => ∃ (kk k2 : Nat), 1 ≤ k2 ∧ k + k2 ≤ n ∧ kk < k + k2 ∧ s = .int .i64 (kk : Int) ∧ t = .int .i64 (k2 : Int) ∧ Hid (Out g (g + 1) w wr ∧ (firsts (L.take (k + k2))).length = kk ∧ PairsAt wr g (firsts (L.take (k + k2))) ∧ ∀ j x, k + k2 ≤ j + 1 → L[j]? = some x → PairAt wr g (j * 4) x)) (fun _ t _ => n - (RowKit.intOf t).toNat)
        case atStart =>
          refine ⟨k, 1, Nat.le_refl _, by omega, by omega, rfl, rfl, Out.of_below HS3.out, HF2.out.1, ?_, fun j x _ hx => (HC.out j x hx).below HS3.out⟩
          rw [HF2.out.2]
          intro j x hx
          have hj := (List.getElem?_eq_some_iff.1 hx).1
          rw [List.length_take] at hj
          rw [List.getElem?_take_of_lt (by omega)] at hx
          exact (HC.out j x hx).below HS3.out
        case round =>
          obtain ⟨kk, k2, h21, h2n, hkk, rfl, rfl, H⟩ := hrel
          have b7 : ((n - k : Nat) : Int) = (n : Int) - (k : Int) := by omega
          by_cases hlt2 : k + k2 < n
          · have hltI2 : (k2 : Int) < ((n - k : Nat) : Int) := by omega
            obtain ⟨l2, hl2⟩ : ∃ l2, k2 = l2 + 1 := ⟨k2 - 1, by omega⟩
            have HU2 : Hid (k2 = l2 + 1) := hl2
            obtain ⟨⟨z0, z1, z2, z3⟩, hz⟩ : ∃ q, L[k + k2]? = some q := ⟨_, List.getElem?_eq_getElem (by rw [HL.out]; omega)⟩
            obtain ⟨⟨v0, v1, v2, v3⟩, hv⟩ : ∃ q, L[k + l2]? = some q := ⟨_, List.getElem?_eq_getElem (by rw [HL.out]; omega)⟩
            have HZV : Hid (L[k + k2]? = some (z0, z1, z2, z3) ∧ L[k + l2]? = some (v0, v1, v2, v3)) := ⟨hz, hv⟩
            have hat := H.out.2.2.2 _ _ (by omega) hz
            have hbt := H.out.2.2.2 _ _ (by omega) hv
            rw [show (k + k2) * 4 = k * 4 + k2 * 4 by omega] at hat
            rw [show (k + l2) * 4 = k * 4 + l2 * 4 by omega] at hbt
            have HX2 : Hid (∀ w', Below wr.heap.size wr w' → (w'.cell? ⟨g, k * 4 + k2 * 4, none⟩ = some (.string z0) ∧ w'.cell? ⟨g, k * 4 + k2 * 4 + 1, none⟩ = some (.int .i64 z1) ∧ w'.cell? ⟨g, k * 4 + k2 * 4 + 2, none⟩ = some (.int .i64 z2) ∧ w'.cell? ⟨g, k * 4 + k2 * 4 + 3, none⟩ = some (.string z3) ∧ w'.cell? ⟨g, k * 4 + l2 * 4, none⟩ = some (.string v0) ∧ w'.cell? ⟨g, k * 4 + l2 * 4 + 1, none⟩ = some (.int .i64 v1) ∧ w'.cell? ⟨g, k * 4 + l2 * 4 + 2, none⟩ = some (.int .i64 v2) ∧ w'.cell? ⟨g, k * 4 + l2 * 4 + 3, none⟩ = some (.string v3))) := fun w' hw => by
              obtain ⟨a0, a1, a2, a3⟩ := hat.below hw
              obtain ⟨a4, a5, a6, a7⟩ := hbt.below hw
              exact ⟨a0, a1, a2, a3, a4, a5, a6, a7⟩
            have cS : ∀ W, Below wr.heap.size wr W → Calls Tryd.prog 43 #[atV (z0, z1, z2, z3), atV (v0, v1, v2, v3)] W fun e w' => e = .returned (.bool (decide (z0 = v0))) ∧ Below wr.heap.size wr w' := fun W hW => (cK.out (z0, z1, z2, z3) (v0, v1, v2, v3) W).mono fun e w' ⟨h1, h2⟩ => ⟨h1, hW.trans (h2.mono hW.size)⟩
            obtain ⟨c0, c1, c2, c3, e0, e1, e2, e3⟩ := HX2.out _ (Below.refl _ _)
            have b1' : (0 : Int) ≤ (k2 : Int) := by omega
            have ew : IntKind.i64.wrap ((k2 : Int) - 1) = (k2 : Int) - 1 := by rw [IntKind.wrap_i64]; omega
            have en : ((k2 : Int) - 1).toNat = l2 := by omega
            have b2 : (1 : Int) ≤ (k2 : Int) := by omega
            have b3 : (0 : Int) ≤ (k2 : Int) - 1 := by omega
            have b4 : (k2 : Int) - 1 < ((n - k : Nat) : Int) := by omega
            have hw0 : Below wr.heap.size wr wr.drew := (Below.refl wr.heap.size wr).drew
            clear hz hv hl2 hat hbt b7
            by_cases hk : z0 = v0
            · subst hk
              simp only [decide_true] at cS
              have HF3 : Hid (firsts (L.take (k + (k2 + 1))) = firsts (L.take (k + k2))) := by
                obtain ⟨h1, h2⟩ := HZV.out
                have hu := HU2.out
                show _ = _
                rw [hu] at h1 ⊢
                rw [show k + (l2 + 1 + 1) = (k + l2) + 2 by omega, firsts_take h2 h1, if_pos rfl, List.append_nil]
                rfl
              go_wp2_with fail
              go_region_held3 (fun w' => (w'.cell? ⟨g, k * 4 + k2 * 4, none⟩ = some (.string z0) ∧ w'.cell? ⟨g, k * 4 + k2 * 4 + 1, none⟩ = some (.int .i64 z1) ∧ w'.cell? ⟨g, k * 4 + k2 * 4 + 2, none⟩ = some (.int .i64 z2) ∧ w'.cell? ⟨g, k * 4 + k2 * 4 + 3, none⟩ = some (.string z3) ∧ w'.cell? ⟨g, k * 4 + l2 * 4, none⟩ = some (.string z0) ∧ w'.cell? ⟨g, k * 4 + l2 * 4 + 1, none⟩ = some (.int .i64 v1) ∧ w'.cell? ⟨g, k * 4 + l2 * 4 + 2, none⟩ = some (.int .i64 v2) ∧ w'.cell? ⟨g, k * 4 + l2 * 4 + 3, none⟩ = some (.string v3)) ∧ Below wr.heap.size wr w')
                (exact ⟨by first | (with_reducible assumption) | (simp [*]; done), by first | (with_reducible assumption)⟩)
                (first | (go_at_call 43; refine (cS _ ?_).mono ?_; (· first | assumption | (apply And.right; assumption)); rintro r1 w4 ⟨rfl, s4⟩; have mm := HX2.out _ s4))
              clear c0 c1 c2 c3 e0 e1 e2 e3 mm
              go_wp2
              go_roundw
              case rel => exact ⟨kk, k2 + 1, by omega, by omega, by omega, rfl, by go_num, H.out.1.trans (Out.of_below s4), by rw [HF3.out]; exact H.out.2.1, by rw [HF3.out]; exact fun j x hx => (H.out.2.2.1 j x hx).below s4, fun j x hj hx => (H.out.2.2.2 j x (by omega) hx).below s4⟩
              case measure => simp [RowKit.intOf]; omega
            · have hkD : decide (z0 = v0) = false := decide_eq_false hk
              rw [hkD] at cS
              have HF3 : Hid (firsts (L.take (k + (k2 + 1))) = firsts (L.take (k + k2)) ++ [(z0, z1, z2, z3)]) := by
                obtain ⟨h1, h2⟩ := HZV.out
                have hu := HU2.out
                show _ = _
                rw [hu] at h1 ⊢
                rw [show k + (l2 + 1 + 1) = (k + l2) + 2 by omega, firsts_take h2 h1, if_neg hk]
                rfl
              go_wp2_with fail
              go_region_held3 (fun w' => (w'.cell? ⟨g, k * 4 + k2 * 4, none⟩ = some (.string z0) ∧ w'.cell? ⟨g, k * 4 + k2 * 4 + 1, none⟩ = some (.int .i64 z1) ∧ w'.cell? ⟨g, k * 4 + k2 * 4 + 2, none⟩ = some (.int .i64 z2) ∧ w'.cell? ⟨g, k * 4 + k2 * 4 + 3, none⟩ = some (.string z3) ∧ w'.cell? ⟨g, k * 4 + l2 * 4, none⟩ = some (.string v0) ∧ w'.cell? ⟨g, k * 4 + l2 * 4 + 1, none⟩ = some (.int .i64 v1) ∧ w'.cell? ⟨g, k * 4 + l2 * 4 + 2, none⟩ = some (.int .i64 v2) ∧ w'.cell? ⟨g, k * 4 + l2 * 4 + 3, none⟩ = some (.string v3)) ∧ Below wr.heap.size wr w')
                (exact ⟨by first | (with_reducible assumption) | (simp [*]; done), by first | (with_reducible assumption)⟩)
                (first | (go_at_call 43; refine (cS _ ?_).mono ?_; (· first | assumption | (apply And.right; assumption)); rintro r1 w4 ⟨rfl, s4⟩; have mm := HX2.out _ s4))
              clear c0 c1 c2 c3 e0 e1 e2 e3 mm
              obtain ⟨c0, c1, c2, c3, -, -, -, -⟩ := HX2.out _ s4
              have fr : ∀ i, i < n * 4 → (∃ u, w4.cell? ⟨g, i, none⟩ = some u) ∧ w4.frozen? ⟨g, i, none⟩ = false := fun i hi => by
                obtain ⟨⟨cur, h1, h2⟩, _⟩ := HB.out
                obtain ⟨cur', h3, h4⟩ := (H.out.1.trans (Out.of_below s4)).shape g cur _ _ h1 (by omega)
                exact ⟨cell_aty h3 i (by omega), frozen_of_row w4 g i cur' _ h3⟩
              obtain ⟨⟨u0, e0⟩, f0⟩ := fr (kk * 4) (by omega)
              obtain ⟨⟨u1, e1⟩, f1⟩ := fr (kk * 4 + 1) (by omega)
              obtain ⟨⟨u2, e2⟩, f2⟩ := fr (kk * 4 + 2) (by omega)
              obtain ⟨⟨u3', e3⟩, f3⟩ := fr (kk * 4 + 3) (by omega)
              have HE : Hid (w4.cell? ⟨g, kk * 4, none⟩ = some u0 ∧ w4.cell? ⟨g, kk * 4 + 1, none⟩ = some u1 ∧ w4.cell? ⟨g, kk * 4 + 2, none⟩ = some u2 ∧ w4.cell? ⟨g, kk * 4 + 3, none⟩ = some u3') := ⟨e0, e1, e2, e3⟩
              have b8 : (kk : Int) < (n : Int) := by omega
              have b9 : (0 : Int) ≤ (kk : Int) := by omega
              clear fr
              go_wp2
              go_roundw
              case rel =>
                refine ⟨kk + 1, k2 + 1, by omega, by omega, by omega, by go_num, by go_num, out_set4y (H.out.1.trans (Out.of_below s4)) (Nat.le_refl _) (by omega) _ _ _ _ _ _ _ _, by rw [HF3.out, List.length_append, H.out.2.1]; rfl, ?_, fun j x hj hx => pair_set4_other ((H.out.2.2.2 j x (by omega) hx).below s4) (Or.inr (by omega)) _ _ _ _⟩
                rw [HF3.out]
                intro j x hx
                by_cases hj : j < kk
                · rw [List.getElem?_append_left (by rw [H.out.2.1]; exact hj)] at hx
                  exact pair_set4_other ((H.out.2.2.1 j x hx).below s4) (Or.inl (by omega)) _ _ _ _
                · have h5 := (List.getElem?_eq_some_iff.1 hx).1
                  rw [List.length_append, H.out.2.1, List.length_singleton] at h5
                  obtain rfl : j = kk := by omega
                  rw [List.getElem?_append_right (by rw [H.out.2.1]; exact Nat.le_refl _), H.out.2.1, Nat.sub_self] at hx
                  obtain rfl : (z0, z1, z2, z3) = x := by simpa using hx
                  exact pair_set4_same HE.out.1 HE.out.2.1 HE.out.2.2.1 HE.out.2.2.2 (z0, z1, z2, z3)
              case measure => simp [RowKit.intOf]; omega
          · have hltI2 : ¬ (k2 : Int) < ((n - k : Nat) : Int) := by omega
            have HE : Hid (firsts (L.take (k + k2)) = firsts L) := by
              show _ = _
              rw [List.take_of_length_le (by rw [HL.out]; omega)]
            obtain ⟨zs, hzs, hcl⟩ := run_clear_at wr g (kk * 4) (n - kk) (cap - kk) (by omega) (fun j hj => by
              obtain ⟨⟨cur, h1, h2⟩, _⟩ := HB.out
              obtain ⟨cur', h3, h4⟩ := H.out.1.shape g cur _ _ h1 (by omega)
              obtain ⟨u, hu⟩ := cell_aty h3 (kk * 4 + j) (by omega)
              rw [hu]; rfl) (fun j hj => by
              obtain ⟨⟨cur, h1, h2⟩, _⟩ := HB.out
              obtain ⟨cur', h3, h4⟩ := H.out.1.shape g cur _ _ h1 (by omega)
              exact frozen_of_row wr g (kk * 4 + j) cur' _ h3)
            have hcn : ¬ cap = kk := by omega
            have b5 : (kk : Int) ≤ (n : Int) := by omega
            have b6 : (kk : Int) ≤ (cap : Int) := by omega
            have b7' : (n : Int) ≤ (cap : Int) := by omega
            have b9 : (0 : Int) ≤ (kk : Int) := by omega
            clear hzs b7
            go_wp2
            go_ret
            have hlen := H.out.2.1
            rw [HE.out] at hlen
            refine ⟨by rw [hlen]; rfl, out_setCells (Nat.le_refl _) (by omega) _ _ _ H.out.1, fun j x hx => ?_⟩
            have hj := (List.getElem?_eq_some_iff.1 hx).1
            exact pair_setCells (H.out.2.2.1 j x (by rw [HE.out]; exact hx)) (by omega)
      · have hkD : decide (x0 = y0) = false := decide_eq_false hk
        rw [hkD] at cS
        have HF2 : Hid (firsts (L.take (k + 1)) = L.take (k + 1)) := by
          obtain ⟨h1, h2⟩ := HXY.out
          show firsts _ = _
          rw [HU.out] at h2 ⊢
          have h3 := HF.out
          rw [HU.out] at h3
          rw [firsts_take h1 h2, if_neg hk, h3, List.take_add_one (i := l + 1), h2]
          rfl
        clear HF
        go_wp2_with fail
        go_region_held3 (fun w' => (w'.cell? ⟨g, k * 4, none⟩ = some (.string x0) ∧ w'.cell? ⟨g, k * 4 + 1, none⟩ = some (.int .i64 x1) ∧ w'.cell? ⟨g, k * 4 + 2, none⟩ = some (.int .i64 x2) ∧ w'.cell? ⟨g, k * 4 + 3, none⟩ = some (.string x3) ∧ w'.cell? ⟨g, l * 4, none⟩ = some (.string y0) ∧ w'.cell? ⟨g, l * 4 + 1, none⟩ = some (.int .i64 y1) ∧ w'.cell? ⟨g, l * 4 + 2, none⟩ = some (.int .i64 y2) ∧ w'.cell? ⟨g, l * 4 + 3, none⟩ = some (.string y3)) ∧ Below w.heap.size w w')
          (exact ⟨by first | (with_reducible assumption) | (simp [*]; done), by first | (with_reducible assumption) | exact hbw.drew⟩)
          (first | (go_at_call 43; refine (cS _ ?_).mono ?_; (· first | assumption | (apply And.right; assumption)); rintro r1 w3 ⟨rfl, s3⟩; have mm := HX.out _ s3))
        clear c0 c1 c2 c3 e0 e1 e2 e3 mm
        go_wp2
        go_roundw
        case rel => exact ⟨k + 1, by omega, by omega, by go_num, s3, HF2.out⟩
        case measure => simp [RowKit.intOf]; omega
    · have hltI : ¬ (k : Int) < (n : Int) := by omega
      have HE : Hid (firsts L = L) := by
        have := HF.out
        rw [List.take_of_length_le (by rw [HL.out]; omega)] at this
        exact this
      clear HF
      go_wp2
      go_ret
      rw [HE.out]
      exact ⟨by rw [HL.out]; rfl, Out.of_below hbw, fun j x hx => (HC.out j x hx).below hbw⟩
end Go.Proofs.YtigmhbgdnmkooaaDoor

/- Reverse, SortStableFunc, CompactFunc of a row of the call's own. -/
namespace Go.Proofs.YtigmhbgdnmkooaaDoor
open Go Go.RowKit Go.Lib Go.Sort
set_option linter.unusedVariables false

theorem byK : ByK := fun x y w0 blk d W S => (byKey_any x y W).mono fun e w' ⟨h1, h2⟩ => ⟨h1, by rw [h2]; exact (S.alloc _).alloc _⟩
theorem insertion_nil (p : Option Addr) (cap : Nat) (w : World) : Calls Tryd.prog 77 #[.slice p 0 cap, .int .i64 0, .int .i64 0, .func (.func 41) #[] #[]] w fun e w' => e = .returned (.tuple #[]) ∧ w' = w := by
  go_enter Tryd.func77, Tryd.ntmps77
  go_wp2
  go_loopw [8, 9] (fun s _ wr => s = .int .i64 1 ∧ wr = w) (fun _ _ _ => 0)
  case atStart => exact ⟨rfl, rfl⟩
  case round =>
    obtain ⟨rfl, rfl⟩ := hrel
    go_wp2
    go_end0
    exact ⟨rfl, rfl⟩
theorem stable_nil (p : Option Addr) (cap : Nat) (w : World) : Calls Tryd.prog 69 #[.slice p 0 cap, .int .i64 0, .func (.func 41) #[] #[]] w fun e w' => e = .returned (.tuple #[]) ∧ w' = w := by
  have c := insertion_nil p cap w
  go_enter Tryd.func69, Tryd.ntmps69
  go_wp2
  go_loopw [7, 8] (fun x y wr => x = .int .i64 0 ∧ y = .int .i64 20 ∧ wr = w) (fun _ _ _ => 0)
  case atStart => exact ⟨rfl, rfl, rfl⟩
  case round =>
    obtain ⟨rfl, rfl, rfl⟩ := hrel
    go_wp2_with fail
    refine c.mono ?_; rintro r w2 ⟨rfl, rfl⟩
    go_wp2_with fail
    go_loopw [6, 7, 8, 9] (fun x _ _ _ wr => x = .int .i64 20 ∧ wr = w2) (fun _ _ _ _ _ => 0)
    case atStart => exact ⟨rfl, rfl⟩
    case round =>
      obtain ⟨rfl, rfl⟩ := hrel
      go_wp2
      go_end0
      exact ⟨rfl, rfl⟩
theorem sortStable_nil (p : Option Addr) (cap : Nat) (w : World) : Calls Tryd.prog 40 #[.slice p 0 cap, .func (.func 41) #[] #[]] w fun e w' => e = .returned (.tuple #[]) ∧ w' = w := by
  have c := stable_nil p cap w
  go_enter Tryd.func40, Tryd.ntmps40
  go_wp2_with fail
  refine c.mono ?_; rintro r w2 ⟨rfl, rfl⟩
  go_wp2
  go_end0
  exact ⟨rfl, rfl⟩
theorem own_some {w : World} {B n c : Nat} {p : Option Addr} {L : List A2} (h : OwnA w B (.slice p n c) L) (h0 : 0 < n) : ∃ g, p = some ⟨g, 0, none⟩ := by
  rcases h.2 with ⟨h1, h2⟩ | ⟨g, cap, cur, h1, _⟩
  · simp only [Value.slice.injEq] at h1; omega
  · simp only [Value.slice.injEq] at h1; exact ⟨g, h1.1⟩
theorem own_len {w : World} {B n c : Nat} {p : Option Addr} {L : List A2} (h : OwnA w B (.slice p n c) L) : L.length = n := by
  rcases h.2 with ⟨h1, h2⟩ | ⟨g, cap, cur, h1, _⟩
  · simp only [Value.slice.injEq] at h1; omega
  · simp only [Value.slice.injEq] at h1; exact h1.2.1.symm
theorem reverse_own {w : World} {B n c : Nat} {p : Option Addr} {L : List A2} (h : OwnA w B (.slice p n c) L) (hl : n ≤ 1048576) :
    Calls Tryd.prog 39 #[.slice p n c] w fun e w' => e = .returned (.tuple #[]) ∧ OwnA w' B (.slice p n c) L.reverse ∧ Below B w w' := by
  have hL := own_len h
  rcases Nat.eq_zero_or_pos n with h0 | h0
  · subst h0
    obtain rfl : L = [] := List.eq_nil_of_length_eq_zero hL
    exact (reverse_nil p c w).mono fun e w' ⟨h1, h2⟩ => ⟨h1, by rw [h2]; exact h, by rw [h2]; exact Below.refl _ _⟩
  · obtain ⟨g, rfl⟩ := own_some h h0
    have R := rowK_own h
    obtain ⟨_, _, hg, hB, _, _⟩ := own_pairs h
    have := reverse_any g c L.toArray w R (by simp; omega) (by simp; omega)
    rw [show L.toArray.size = n by simpa using hL] at this
    exact this.mono fun e w' ⟨h1, h2⟩ => ⟨h1, own_out h (out_of_swk h2) (by rw [List.length_reverse, hL]) (Nat.le_refl _) (fun j x hx => swk_pairs h2 R (by simp) (by simpa using hx)), ((out_of_swk h2).below (Nat.le_of_lt hg)).mono hB⟩
theorem sort_own {w : World} {B n c : Nat} {p : Option Addr} {L : List A2} (h : OwnA w B (.slice p n c) L) (hl : n ≤ 1048576) :
    Calls Tryd.prog 40 #[.slice p n c, .func (.func 41) #[] #[]] w fun e w' => e = .returned (.tuple #[]) ∧ (∃ M, OwnA w' B (.slice p n c) M ∧ SL L M ∧ Srt M) ∧ Below B w w' := by
  have hL := own_len h
  rcases Nat.eq_zero_or_pos n with h0 | h0
  · subst h0
    obtain rfl : L = [] := List.eq_nil_of_length_eq_zero hL
    exact (sortStable_nil p c w).mono fun e w' ⟨h1, h2⟩ => ⟨h1, ⟨[], by rw [h2]; exact h, SL.refl _, List.Pairwise.nil⟩, by rw [h2]; exact Below.refl _ _⟩
  · obtain ⟨g, rfl⟩ := own_some h h0
    have R := rowK_own h
    obtain ⟨_, _, hg, hB, _, _⟩ := own_pairs h
    have hz : L.toArray.size = n := by simpa using hL
    exact (sortStable_any byK n g c L.toArray w R hz (SWK.start R.hH) (by omega)).mono fun e w' ⟨h1, d', h2, h3, h4, h5⟩ => by
      have e1 : sg L.toArray 0 n = L := by rw [← hz, sg_toList]
      have e2 : sg d' 0 n = d'.toList := by rw [← h3, sg_toList]
      rw [e1, e2] at h4
      rw [e2] at h5
      exact ⟨h1, ⟨d'.toList, own_out h (out_of_swk h2) (by simpa using h3) (Nat.le_refl _) (fun j x hx => swk_pairs h2 R (by rw [h3, hz]) (by simpa using hx)), h4, h5⟩, ((out_of_swk h2).below (Nat.le_of_lt hg)).mono hB⟩
theorem compact_own {w : World} {B n c : Nat} {p : Option Addr} {L : List A2} (h : OwnA w B (.slice p n c) L) (hl : n ≤ 1048576) :
    Calls Tryd.prog 42 #[.slice p n c, .func (.func 43) #[] #[]] w fun e w' => e = .returned (.slice p (firsts L).length c) ∧ OwnA w' B (.slice p (firsts L).length c) (firsts L) ∧ Below B w w' := by
  have hL := own_len h
  by_cases h2 : n < 2
  · have hf : firsts L = L := by
      cases L with
      | nil => rw [firsts]
      | cons a t => cases t with
        | nil => rw [firsts]
        | cons b r => simp at hL; omega
    rw [hf, hL]
    exact (compact_few p n c w h2).mono fun e w' ⟨h1, h2⟩ => ⟨h1, by rw [h2]; exact h, by rw [h2]; exact Below.refl _ _⟩
  · obtain ⟨g, rfl⟩ := own_some h (by omega)
    obtain ⟨_, hc, hg, hB, hb, hp⟩ := own_pairs h
    exact (compact_any g n c L w hL hc (by omega) (by omega) hb hp).mono fun e w' ⟨h1, h2, h3⟩ => ⟨h1, own_out h h2 rfl (by have := firsts_le L; omega) h3, (h2.below (Nat.le_of_lt hg)).mono hB⟩
end Go.Proofs.YtigmhbgdnmkooaaDoor

/- What attrs.Of answers. -/
namespace Go.Proofs.YtigmhbgdnmkooaaDoor
open Go Go.RowKit Go.Lib Go.Sort
set_option linter.unusedVariables false

theorem wpList_make_at (w : World) {ops : Array Oper} {rest : List Oper} {o : Oper} {a : Act} {Q : Exit → Act → World → Prop}
    (hg : o.guard = none) (l c : Operand) (hop : o.op = Op.makeSlice 22 l c) (base : Nat)
    (kl kc : IntKind) (C : Int) (n : Nat) (hl : a.eval l = .int kl 0) (hc : a.eval c = .int kc C) (hC : C = (n : Int)) (b2 : n ≤ 1048577) (b4 : base ≤ w.heap.size)
    (hK : ∀ v w', w'.ownsRow base 48 4 v 0 [] → w.grownBy w' none → wpList Tryd.prog ops Q rest (a.put o.dst v) w') :
    wpList Tryd.prog ops Q (o :: rest) a w := by
  obtain ⟨i, z, hi, hz, hz1, hz2, hz3⟩ := infoAt
  exact wpList_make_own w hg l c _ hop base 48 i z 4 Tryd.underlying22 hi hz hz1 kl kc C n hl hc hC (by rw [hz2]; omega) (by unfold maxLen; omega) b4 fun w' h1 h2 => hK _ w' h1 h2

set_option maxHeartbeats 4000000 in
set_option maxRecDepth 100000 in
theorem attrsOf_any {I : List Nat} {a : Nat → Addr} (v : Value) (L : List A2) (w : World) (hI : ∀ i ∈ IX, i ∈ I) (hS : Std I a w) (hv : RowA w v L)
    (hs : ∀ q ∈ L, q.1.size ≤ 281474976710656 ∧ q.2.2.2.size ≤ 281474976710656) (hl : L.length ≤ 1048576) :
    Calls Tryd.prog 11 #[v] w fun r w' => ∃ v', r = .returned (.tuple #[v', errOf a (ofE L)]) ∧ (ofE L = 0 → OwnA w' w.heap.size v' (ofL L)) ∧ (ofE L ≠ 0 → v' = .slice none 0 0) ∧ Below w.heap.size w w' := by
  obtain ⟨n, hn⟩ : ∃ n, L.length = n := ⟨_, rfl⟩
  obtain ⟨p, cap, rfl, hcap, hc⟩ := hv
  rw [hn] at hl hcap ⊢
  have HN : Hid (L.length = n) := hn
  have HC : Hid _ := hc
  have HS : Hid (Std I a w) := hS
  have HZ : Hid _ := hs
  have HII : Hid (∀ i ∈ IX, i ∈ I) := hI
  clear hc hS hs hI hn
  go_enter Tryd.func11, Tryd.ntmps11
  go_wp2_with (at_make; refine wpList_make_at _ rfl _ _ rfl w.heap.size .i64 .i64 _ n rfl rfl rfl (by omega) (Nat.le_refl _) ?_; intro v0 w1 hown hgr; have hb1 : Below w.heap.size w w1 := (Below.refl _ _).grown hgr (Nat.le_refl _) (fun k hk => by cases hk); clear hgr)
  have HO : Hid (OwnA w1 w.heap.size v0 []) := hown
  clear hown
  go_loopw [4, 6, 7, 13] (fun s _ _ i wr => ∃ (k : Nat), k ≤ n ∧ i = .int .i64 k ∧ Below w.heap.size w wr ∧ Hid (OwnA wr w.heap.size s (L.take k) ∧ ofE L = ofE (L.drop k))) (fun _ _ _ i _ => n - (RowKit.intOf i).toNat)
  case atStart => exact ⟨0, Nat.zero_le _, rfl, hb1, by rw [List.take_zero]; exact HO.out, by rw [List.drop_zero]⟩
  case round =>
    clear hb1 HO
    obtain ⟨k, hk, rfl, hbw, H⟩ := hrel
    by_cases hlt : k < n
    · have hltI : (k : Int) < n := by omega
      obtain ⟨q, hq⟩ : ∃ q, L[k]? = some q := ⟨_, List.getElem?_eq_getElem (by rw [HN.out]; exact hlt)⟩
      obtain ⟨b, off, rfl, hp⟩ := HC.out k q hq
      obtain ⟨c0, c1, c2, c3⟩ := hp.below hbw
      have hzs := HZ.out _ (List.mem_of_getElem? hq)
      have HD : Hid (L.drop k = q :: L.drop (k + 1) ∧ L.take (k + 1) = L.take k ++ [q]) := ⟨drop_cons HN.out hlt hq, by rw [List.take_add_one, hq]; rfl⟩
      obtain ⟨qk, qx, qn, qt⟩ := q
      simp only at c0 c1 c2 c3 hzs
      have hb1 : Below w.heap.size w (wr.alloc (.cells #[.string qk, .int .i64 qx, .int .i64 qn, .string qt] 48)) := hbw.alloc hbw.size _
      have bA : Below wr.heap.size wr (wr.alloc (.cells #[.string qk, .int .i64 qx, .int .i64 qn, .string qt] 48)) := (Below.refl _ _).alloc (Nat.le_refl _) _
      have cP := pair_any (qk, qx, qn, qt) _ HII.out (HS.out.below hb1) hzs.1 hzs.2
      have H1 : Hid (ofE L = if pairE (qk, qx, qn, qt) = 0 then ofE (L.drop (k + 1)) else pairE (qk, qx, qn, qt)) := by
        show _ = _
        rw [H.out.2, HD.out.1, ofE]
      have HOw : Hid (OwnA (wr.alloc (.cells #[.string qk, .int .i64 qx, .int .i64 qn, .string qt] 48)) w.heap.size u4 (L.take k)) := owns_below H.out.1 bA
      have bp : Hid (∀ W, Below (wr.alloc (.cells #[.string qk, .int .i64 qx, .int .i64 qn, .string qt] 48)).heap.size (wr.alloc (.cells #[.string qk, .int .i64 qx, .int .i64 qn, .string qt] 48)) W → PairAt W wr.heap.size 0 (qk, qx, qn, qt)) := fun W hW => PairAt.below (w := wr.alloc (.cells #[.string qk, .int .i64 qx, .int .i64 qn, .string qt] 48)) ⟨by simp, by simp, by simp, by simp⟩ hW
      obtain ⟨PE, hPE⟩ : ∃ PE, pairE (qk, qx, qn, qt) = PE := ⟨_, rfl⟩
      rw [hPE] at cP H1
      have HZQ : Hid (qk.size ≤ 281474976710656 ∧ qt.size ≤ 281474976710656) := hzs
      clear hzs hq hPE H hp bA
      go_wp2_with fail
      refine cP.mono ?_; rintro r w3 ⟨rfl, hb3⟩
      have hb4 := hb1.trans (hb3.mono hb1.size)
      obtain ⟨e0, e1, e2, e3⟩ := bp.out _ hb3
      rw [Nat.zero_add] at e1 e2 e3
      have HO3 : Hid (OwnA w3 w.heap.size u4 (L.take k)) := owns_below HOw.out hb3
      clear cP hb3 hb1 c0 c1 c2 c3 HOw bp
      cases PE with
      | zero =>
        have H2 : Hid (ofE L = ofE (L.drop (k + 1))) := by show _ = _; rw [H1.out, if_pos rfl]
        rw [errOf_zero]
        have cO := fun W => own_any qk (qx, qn, qt) W HZQ.out.1 HZQ.out.2
        clear H1
        go_wp2_with fail
        refine (cO _).mono ?_; rintro r w4 ⟨rfl, hb5⟩
        have hb6 := hb4.trans (hb5.mono hb4.size)
        have bA := (Below.refl w4.heap.size w4).alloc (Nat.le_refl _) (.cells #[.string qk, .int .i64 qx, .int .i64 qn, .string qt] 48)
        have hb7 := hb6.trans (bA.mono hb6.size)
        have HO4 : Hid (OwnA (w4.alloc (.cells #[.string qk, .int .i64 qx, .int .i64 qn, .string qt] 48)) w.heap.size u4 (L.take k)) := owns_below (owns_below HO3.out hb5) bA
        have hge : Hid (∀ j, u4.ownBlock = some j → w.heap.size ≤ j) := fun j hj => (owns_block HO3.out j hj).1
        have hL1 : (L.take k).length ≤ 1048676 := by rw [List.length_take]; omega
        clear e0 e1 e2 e3 hb5 bA cO
        go_wp2_with (at_builtin; refine wpList_append_at rfl (.tmp 22) (.tmp 28) rfl w.heap.size u4 (L.take k) rfl HO4.out w4.heap.size 1 (qk, (qx, qn, qt)) rfl ⟨by simp, by simp, by simp, by simp⟩ hL1 hb7.size ?_; intro v' w6 own' gr'; have b8 := hb7.grown gr' hb7.size (fun j hj => hge.out j hj); have HO8 : Hid (OwnA w6 w.heap.size v' (L.take (k + 1))) := (by show OwnA _ _ _ _; rw [HD.out.2]; exact own'); clear own' gr' hb7 HO4)
        go_roundw
        case rel => exact ⟨k + 1, by omega, by go_num, b8, HO8.out, H2.out⟩
        case measure => simp [RowKit.intOf]; omega
      | succ e =>
        have H2 : Hid (ofE L = e + 1) := by show _ = _; rw [H1.out, if_neg (by omega)]
        rw [errOf_succ]
        clear H1 e0 e1 e2 e3
        go_wp2
        go_ret2
        refine ⟨.slice none 0 0, ?_, fun h => by have := H2.out; omega, fun _ => rfl, hb4⟩
        rw [H2.out, errOf_succ]
        rfl
    · have hltI : ¬ (k : Int) < n := by omega
      have HE : Hid (ofE L = 0) := by
        show _ = _
        rw [H.out.2, List.drop_of_length_le (by rw [HN.out]; omega), ofE]
      have HO2 : Hid (OwnA wr w.heap.size u4 L) := by
        have := H.out.1
        rw [List.take_of_length_le (by rw [HN.out]; omega)] at this
        exact this
      obtain ⟨p4, c4, rfl⟩ := own_slice HO2.out
      rw [HN.out] at HO2 ⊢
      have c1 := reverse_own HO2.out hl
      clear H hlt
      go_wp2_with fail
      refine c1.mono ?_; rintro r w2 ⟨rfl, o2, b2⟩
      have hb2 := hbw.trans b2
      have c2 := sort_own o2 hl
      clear c1 o2 b2 hbw
      go_wp2_with fail
      refine c2.mono ?_; rintro r w3 ⟨rfl, ⟨M, o3, hsl, hsr⟩, b3⟩
      have hb3 := hb2.trans b3
      have hf := of_firsts hsl hsr
      have c3 := compact_own o3 hl
      rw [hf] at c3
      clear c2 o3 b3 hb2 hsl hsr hf
      obtain ⟨m, hm⟩ : ∃ m, (ofL L).length = m := ⟨_, rfl⟩
      have HM : Hid ((ofL L).length = m) := hm
      rw [hm] at c3
      clear hm
      go_wp2_with fail
      refine c3.mono ?_; rintro r w4 ⟨rfl, o4, b4⟩
      have hb4 := hb3.trans b4
      have HO4 : Hid _ := o4
      clear c3 o4 b4 hb3
      go_wp2
      go_ret2
      refine ⟨_, by rw [HE.out, errOf_zero]; rfl, fun _ => HO4.out, fun h => absurd HE.out h, hb4⟩
end Go.Proofs.YtigmhbgdnmkooaaDoor

/- The errors' numbers: what vellumnum.list and vellumnum.Num answer where all nineteen sentinels lie as laid. -/
namespace Go.Proofs.YtigmhbgdnmkooaaDoor
open Go Go.RowKit
set_option linter.unusedVariables false

/-- All nineteen. -/
def all19 : List Nat := List.range 19
abbrev Sent (a : Nat → Addr) (w : World) : Prop := Er all19 a w
theorem in19 {i : Nat} (h : i < 19) : i ∈ all19 := List.mem_range.2 h
def errA (a : Nat → Addr) : Array Value := #[errV a 0, errV a 1, errV a 2, errV a 3, errV a 4, errV a 5, errV a 6, errV a 7, errV a 8, errV a 9, errV a 10, errV a 11, errV a 12, errV a 13, errV a 14, errV a 15, errV a 16, errV a 17, errV a 18]

theorem wl_build (a : Nat → Addr) {ops : Array Oper} {rest : List Oper} {o : Oper} {A : Act} {w : World} {Q : Exit → Act → World → Prop} (hg : o.guard = none) (parts : Array (Nat × Operand)) (ho : o.op = .build 60 parts)
    (hp : (parts.map fun (i, x) => (i, A.eval x)) = #[(0, errV a 0), (1, errV a 1), (2, errV a 2), (3, errV a 3), (4, errV a 4), (5, errV a 5), (6, errV a 6), (7, errV a 7), (8, errV a 8), (9, errV a 9), (10, errV a 10), (11, errV a 11), (12, errV a 12), (13, errV a 13), (14, errV a 14), (15, errV a 15), (16, errV a 16), (17, errV a 17), (18, errV a 18)])
    (h : wpList Tryd.prog ops Q rest (A.put o.dst (.agg (errA a))) w) : wpList Tryd.prog ops Q (o :: rest) A w := by
  have hb : Tryd.prog.built 60 (parts.map fun (i, x) => (i, A.eval x)).toList = some (errA a) := by rw [hp]; kernel_rfl
  refine wpList_build hg 60 parts ho (by rw [hb]; rfl) ?_
  rw [hb]; exact h

theorem alloc_setRow (w : World) (old cs : Array Value) (t : TypeId) : (w.alloc (.cells old t)).setRow w.heap.size cs = w.alloc (.cells cs t) := by
  have : ((w.heap.push (.cells old t)).modify w.heap.size fun | .cells _ t f => .cells cs t f | o => o) = w.heap.push (.cells cs t) := by
    apply Array.ext
    · simp
    · intro i h1 h2
      rw [Array.getElem_modify]
      by_cases hi : w.heap.size = i
      · subst hi; simp
      · rw [if_neg hi]
        have : i < w.heap.size := by simp at h2; omega
        simp [Array.getElem_push, this]
  show { w with heap := (w.heap.push (.cells old t)).modify w.heap.size _ } = { w with heap := w.heap.push _ }
  rw [← this]; rfl

theorem wl_store (a : Nat → Addr) {ops : Array Oper} {rest : List Oper} {o : Oper} {A : Act} {w : World} {Q : Exit → Act → World → Prop} {old : Array Value} (hg : o.guard = none) (x y : Operand) (ho : o.op = .store 60 x y)
    (hx : A.eval x = .pointer (some ⟨w.heap.size, 0, none⟩)) (hy : A.eval y = .agg (errA a)) (hold : old.size = 19)
    (h : wpList Tryd.prog ops Q rest (A.put o.dst undef) (w.alloc (.cells (errA a) 60))) : wpList Tryd.prog ops Q (o :: rest) A (w.alloc (.cells old 60)) := by
  refine wpList_store_row hg 60 x y ho w.heap.size (errA a) hx hy 60 old (by show (w.heap.push _)[w.heap.size]? = _; simp) (by kernel_rfl) (by rw [hold]; rfl) (by kernel_rfl) ?_
  rw [alloc_setRow]; exact h

set_option maxHeartbeats 400000 in
set_option maxRecDepth 100000 in
theorem list_any (a : Nat → Addr) (w : World) (h : ∀ i, i < 19 → w.cell? ⟨[2, 3, 4, 5, 6, 7, 0, 1, 8, 9, 10, 11, 12, 13, 14, 15, 16, 17, 18].getD i 0, 0, none⟩ = some (errV a i)) :
    Calls Tryd.prog 34 #[] w fun e w' => e = .returned (.agg (errA a)) ∧ Below w.heap.size w w' := by
  have h0 : w.cell? ⟨2, 0, none⟩ = some (errV a 0) := h 0 (by omega)
  have h1 : w.cell? ⟨3, 0, none⟩ = some (errV a 1) := h 1 (by omega)
  have h2 : w.cell? ⟨4, 0, none⟩ = some (errV a 2) := h 2 (by omega)
  have h3 : w.cell? ⟨5, 0, none⟩ = some (errV a 3) := h 3 (by omega)
  have h4 : w.cell? ⟨6, 0, none⟩ = some (errV a 4) := h 4 (by omega)
  have h5 : w.cell? ⟨7, 0, none⟩ = some (errV a 5) := h 5 (by omega)
  have h6 : w.cell? ⟨0, 0, none⟩ = some (errV a 6) := h 6 (by omega)
  have h7 : w.cell? ⟨1, 0, none⟩ = some (errV a 7) := h 7 (by omega)
  have h8 : w.cell? ⟨8, 0, none⟩ = some (errV a 8) := h 8 (by omega)
  have h9 : w.cell? ⟨9, 0, none⟩ = some (errV a 9) := h 9 (by omega)
  have h10 : w.cell? ⟨10, 0, none⟩ = some (errV a 10) := h 10 (by omega)
  have h11 : w.cell? ⟨11, 0, none⟩ = some (errV a 11) := h 11 (by omega)
  have h12 : w.cell? ⟨12, 0, none⟩ = some (errV a 12) := h 12 (by omega)
  have h13 : w.cell? ⟨13, 0, none⟩ = some (errV a 13) := h 13 (by omega)
  have h14 : w.cell? ⟨14, 0, none⟩ = some (errV a 14) := h 14 (by omega)
  have h15 : w.cell? ⟨15, 0, none⟩ = some (errV a 15) := h 15 (by omega)
  have h16 : w.cell? ⟨16, 0, none⟩ = some (errV a 16) := h 16 (by omega)
  have h17 : w.cell? ⟨17, 0, none⟩ = some (errV a 17) := h 17 (by omega)
  have h18 : w.cell? ⟨18, 0, none⟩ = some (errV a 18) := h 18 (by omega)
  have z0 : 2 < w.heap.size := lt_of_cell h0
  have z1 : 3 < w.heap.size := lt_of_cell h1
  have z2 : 4 < w.heap.size := lt_of_cell h2
  have z3 : 5 < w.heap.size := lt_of_cell h3
  have z4 : 6 < w.heap.size := lt_of_cell h4
  have z5 : 7 < w.heap.size := lt_of_cell h5
  have z6 : 0 < w.heap.size := lt_of_cell h6
  have z7 : 1 < w.heap.size := lt_of_cell h7
  have z8 : 8 < w.heap.size := lt_of_cell h8
  have z9 : 9 < w.heap.size := lt_of_cell h9
  have z10 : 10 < w.heap.size := lt_of_cell h10
  have z11 : 11 < w.heap.size := lt_of_cell h11
  have z12 : 12 < w.heap.size := lt_of_cell h12
  have z13 : 13 < w.heap.size := lt_of_cell h13
  have z14 : 14 < w.heap.size := lt_of_cell h14
  have z15 : 15 < w.heap.size := lt_of_cell h15
  have z16 : 16 < w.heap.size := lt_of_cell h16
  have z17 : 17 < w.heap.size := lt_of_cell h17
  have z18 : 18 < w.heap.size := lt_of_cell h18
  clear h
  go_enter Tryd.func34, Tryd.ntmps34
  go_wp2_with (first | (refine wl_build a rfl _ rfl (by kernel_rfl) ?_) | (refine wl_store a rfl _ _ rfl (by kernel_rfl) (by kernel_rfl) (by kernel_rfl) ?_))
  have hl := run_loadVar_new (P := Tryd.prog) w 60 (errA a) 19 27 Tryd.underlying60 (by kernel_rfl)
  refine bodyPost_ret (v := .agg (errA a)) ?_ rfl ⟨rfl, (Below.refl _ _).alloc (Nat.le_refl _) _⟩
  simp only [results, Tryd.results34]
  simp [asAddr, Act.put, hl]

theorem errA_get (a : Nat → Addr) (k : Nat) (hk : k < 19) : (errA a)[k]? = some (errV a k) := by
  have e : errA a = ((List.range 19).map (errV a)).toArray := rfl
  rw [e]
  simp [hk]

theorem index_arr {A : Array Value} {k : Nat} {v : Value} (hk : k < 19) (hA : A[k]? = some v) (w : World) : (Instr.index 60 (.agg A) (.int .i64 k)).run Tryd.prog w = .ok v w := by
  obtain ⟨i, hi, hs⟩ := Option.map_eq_some_iff.1 (show (Tryd.prog.info? 27).map (·.size) = some 1 by kernel_rfl)
  have hk2 : (0 : Int) ≤ k ∧ (k : Int) < 19 := by omega
  simp [Instr.index, run_underlying Tryd.underlying60, asIntOf, hk2, sizeOf, typeInfo, hi, hs, part, hA]
  omega

theorem num_nil (w : World) : Calls Tryd.prog 8 #[.nilIface] w fun e w' => e = .returned (.int .i64 0) ∧ w' = w := by
  go_enter Tryd.func8, Tryd.ntmps8
  go_wp2
  go_ret
  exact ⟨rfl, rfl⟩

set_option maxHeartbeats 400000 in
theorem num_err {a : Nat → Addr} {w : World} (h : Sent a w) (n : Nat) (hn : n < 19) :
    Calls Tryd.prog 8 #[errV a n] w fun e w' => e = .returned (.int .i64 (n + 1)) ∧ Below w.heap.size w w' := by
  have hcell : ∀ i, i < 19 → w.cell? ⟨[2, 3, 4, 5, 6, 7, 0, 1, 8, 9, 10, 11, 12, 13, 14, 15, 16, 17, 18].getD i 0, 0, none⟩ = some (errV a i) := fun i hi => h.cell i (in19 hi)
  have hnil := eql_nil a n
  have hsame := eql_same a n
  obtain ⟨A, hA⟩ : ∃ A, A = errA a := ⟨_, rfl⟩
  have hAs : A.size = 19 := by rw [hA]; rfl
  have hAg : ∀ k, k < 19 → A[k]? = some (errV a k) := by rw [hA]; exact errA_get a
  go_enter Tryd.func8, Tryd.ntmps8
  go_wp2_with (go_at_call 34; refine (list_any a _ hcell).mono ?_; rintro e w1 ⟨rfl, hb⟩; have h1 := h.below hb; clear hcell h hnil; rw [← hA]; clear hA)
  go_loop [8] (fun i => ∃ k : Nat, k ≤ n ∧ i = .int .i64 k) (fun i => 19 - (intOf i).toNat)
  case atStart => exact ⟨0, Nat.zero_le _, rfl⟩
  case round =>
    obtain ⟨k, hk, rfl⟩ := hrel
    have hAk := hAg k (by omega)
    have hk9 : (k : Int) < 19 := by omega
    have hix := index_arr (A := A) (by omega : k < 19) hAk
    clear hAg hAk
    by_cases hlt : k < n
    · have he := eql_other h1 n k (in19 hn) (in19 (by omega)) (by omega)
      clear h1 hsame
      go_wp2
      go_round
      case rel => exact ⟨k + 1, by omega, by go_num⟩
      case measure => simp [intOf]; omega
    · obtain rfl : k = n := by omega
      clear h1
      go_wp2
      go_ret
      exact ⟨rfl, hb⟩

theorem num_of {a : Nat → Addr} {w : World} (h : Sent a w) (e : Nat) (he : e ≤ 19) :
    Calls Tryd.prog 8 #[errOf a e] w fun r w' => r = .returned (.int .i64 e) ∧ Below w.heap.size w w' := by
  cases e with
  | zero => exact (num_nil w).mono fun r w' ⟨h1, h2⟩ => ⟨h1, by rw [h2]; exact Below.refl _ _⟩
  | succ n => rw [errOf_succ]; exact num_err h n (by omega)
end Go.Proofs.YtigmhbgdnmkooaaDoor

/- vellumhand.Kept and vellumlaw03.same. -/
namespace Go.Proofs.YtigmhbgdnmkooaaDoor
open Go Go.RowKit Go.Lib
set_option linter.unusedVariables false

set_option maxHeartbeats 800000 in
set_option maxRecDepth 100000 in
theorem kept_any (va vb : Value) (A : List A2) (w : World) (hA : HandA w va A) (hB : RowA w vb A) (hl : A.length ≤ 1048576) :
    Calls Tryd.prog 18 #[va, vb] w fun r w' => r = .returned (.bool true) ∧ Below w.heap.size w w' := by
  have cS := refSame_any va vb A A w hA.2.1 hB (by omega) (by omega)
  simp only [decide_true] at cS
  obtain ⟨pb, cb, rfl, hcb⟩ := hB.val
  clear hB
  obtain ⟨n, hn⟩ : ∃ n, A.length = n := ⟨_, rfl⟩
  by_cases h0 : n = 0
  · subst h0
    obtain ⟨pa, ca, rfl, _⟩ := hA.2.1.val
    rw [hn] at cS ⊢
    clear hA hl hn hcb
    go_enter Tryd.func18, Tryd.ntmps18
    go_wp2_with fail
    refine cS.mono ?_; rintro r w2 ⟨rfl, hb2⟩
    go_wp2
    go_ret
    exact ⟨rfl, hb2⟩
  · have h0I : ((n : Int) == 0) = false := by simp; omega
    obtain ⟨p, c, rfl, hc, hr⟩ := hA.2.2 (fun e => h0 (by rw [← hn, e]; rfl))
    obtain ⟨p', c', e', hc', hr'⟩ := hr
    obtain ⟨b, off, hp1, h1⟩ := hr' n s1 (by rw [List.getElem?_append_right (by omega), hn]; simp)
    obtain ⟨b2, off2, hp2, h2⟩ := hr' (n + 1) s2 (by rw [List.getElem?_append_right (by omega), hn]; simp)
    simp only [Value.slice.injEq] at e'
    obtain ⟨rfl, -, rfl⟩ := e'
    subst hp1
    cases hp2
    rw [hn] at cS hl hc hcb ⊢
    have q1 := beq_key (x := ⟨#[115, 112, 97, 114, 101]⟩) (y := ⟨#[115, 112, 97, 114, 101]⟩) true (decide_eq_true rfl)
    have q2 := beq_key (x := ⟨#[114, 111, 111, 109]⟩) (y := ⟨#[114, 111, 111, 109]⟩) true (decide_eq_true rfl)
    have d1 := h1.c0
    have d2 := h2.c0
    simp only at d1 d2
    clear hA hc' hr' h0 h1 h2
    go_enter Tryd.func18, Tryd.ntmps18
    go_wp2_with fail
    refine cS.mono ?_; rintro r w2 ⟨rfl, hb2⟩
    have e1 := (hb2.cell (lt_of_cell d1)).trans d1
    have e2 := (hb2.cell (lt_of_cell d2)).trans d2
    clear d1 d2 cS hn
    go_wp2
    go_ret
    exact ⟨rfl, hb2⟩

theorem samen_any {a : Nat → Addr} (va vb : Value) (L : List A2) (e : Nat) (w : World) (hS : Sent a w) (hA : RowA w va L) (hB : RowA w vb L) (hl : L.length ≤ 4611686018427387904) (he : e ≤ 19) :
    Calls Tryd.prog 13 #[va, errOf a e, vb, .int .i64 e] w fun r w' => r = .returned (.bool true) ∧ Below w.heap.size w w' := by
  have cS := refSame_any va vb L L w hA hB hl hl
  have cN := fun W (hW : Below w.heap.size w W) => from_below hW (num_of (hS.below hW) e he)
  simp only [decide_true] at cS
  obtain ⟨pa, ca, rfl, _⟩ := hA.val
  obtain ⟨pb, cb, rfl, _⟩ := hB.val
  obtain ⟨V, hV⟩ : ∃ V, errOf a e = V := ⟨_, rfl⟩
  rw [hV] at cN ⊢
  clear hA hB hS hl hV
  go_enter Tryd.func13, Tryd.ntmps13
  go_wp2_with fail
  refine cS.mono ?_; rintro r w2 ⟨rfl, hb2⟩
  have cN' := cN _ hb2
  clear cS cN
  go_wp2_with fail
  refine cN'.mono ?_; rintro r w3 ⟨rfl, hb3⟩
  go_wp2
  go_ret
  exact ⟨rfl, hb3⟩
end Go.Proofs.YtigmhbgdnmkooaaDoor

/- What vellumlaw03.lives answers: true. -/
namespace Go.Proofs.YtigmhbgdnmkooaaDoor
open Go Go.RowKit Go.Lib
set_option linter.unusedVariables false

theorem number_any (n : Int) (w : World) : Calls Tryd.prog 63 #[.int .i64 n] w fun e w' => e = .returned (plV (2, n, ⟨#[]⟩)) ∧ Below w.heap.size w w' := by
  have b := (Below.refl w.heap.size w).alloc (Nat.le_refl _) (.cells #[.int .i64 2, .int .i64 n, .string ⟨#[]⟩] 36)
  go_enter Tryd.func63, Tryd.ntmps63
  go_wp2
  exact bodyPost_ret (v := plV (2, n, ⟨#[]⟩)) (by simp [results, Tryd.results63, go_sem]) rfl ⟨rfl, b⟩
theorem one_any (k : ByteArray) (n : Int) (w : World) : Calls Tryd.prog 33 #[.string k, .int .i64 n] w fun e w' => e = .returned (atV (k, 2, n, ⟨#[]⟩)) ∧ Below w.heap.size w w' := by
  have c := fun W => number_any n W
  go_enter Tryd.func33, Tryd.ntmps33
  go_wp2_with fail
  obtain ⟨W0, hW0⟩ : ∃ W0, W0 = w.alloc (.cells #[.string ⟨#[]⟩, .int .i64 0, .int .i64 0, .string ⟨#[]⟩] 48) := ⟨_, rfl⟩
  have r0 : W0.cell? ⟨w.heap.size, 0, none⟩ = some (.string ⟨#[]⟩) := by rw [hW0]; simp
  have r1 : W0.cell? ⟨w.heap.size, 1, none⟩ = some (.int .i64 0) := by rw [hW0]; simp
  have r2 : W0.cell? ⟨w.heap.size, 2, none⟩ = some (.int .i64 0) := by rw [hW0]; simp
  have r3 : W0.cell? ⟨w.heap.size, 3, none⟩ = some (.string ⟨#[]⟩) := by rw [hW0]; simp
  have f0 : W0.frozen? ⟨w.heap.size, 0, none⟩ = false := by rw [hW0]; simp
  have f1 : W0.frozen? ⟨w.heap.size, 1, none⟩ = false := by rw [hW0]; simp
  have f2 : W0.frozen? ⟨w.heap.size, 2, none⟩ = false := by rw [hW0]; simp
  have f3 : W0.frozen? ⟨w.heap.size, 3, none⟩ = false := by rw [hW0]; simp
  have b0 : Below w.heap.size w W0 := by rw [hW0]; exact (Below.refl _ _).alloc (Nat.le_refl _) _
  rw [← hW0]
  clear hW0
  refine (c _).mono ?_; rintro e w1 ⟨rfl, hb⟩
  have s0 := (hb.cell (lt_of_cell r0)).trans r0
  have s1 := (hb.cell (lt_of_cell r1)).trans r1
  have s2 := (hb.cell (lt_of_cell r2)).trans r2
  have s3 := (hb.cell (lt_of_cell r3)).trans r3
  have g0 := (hb.frozen (lt_of_cell r0)).trans f0
  have g1 := (hb.frozen (lt_of_cell r1)).trans f1
  have g2 := (hb.frozen (lt_of_cell r2)).trans f2
  have g3 := (hb.frozen (lt_of_cell r3)).trans f3
  have b1 := b0.trans (hb.mono b0.size)
  clear r0 r1 r2 r3 f0 f1 f2 f3 hb
  go_wp2
  exact bodyPost_ret (v := atV (k, 2, n, ⟨#[]⟩)) (by simp [results, Tryd.results33, go_sem, s0, s1, s2, s3]) rfl ⟨rfl, (((b1.setCell (Nat.le_refl _) _).setCell (Nat.le_refl _) _).setCell (Nat.le_refl _) _).setCell (Nat.le_refl _) _⟩

abbrev kA : ByteArray := ⟨#[97]⟩
abbrev kB : ByteArray := ⟨#[98]⟩
abbrev kC : ByteArray := ⟨#[99]⟩
def LA : List A2 := [(kA, 2, 1, ⟨#[]⟩), (kB, 2, 2, ⟨#[]⟩)]
def LB : List A2 := [(kB, 0, 0, ⟨#[]⟩), (kC, 2, 3, ⟨#[]⟩)]
def LC : List A2 := [(kA, 2, 1, ⟨#[]⟩), (kC, 2, 3, ⟨#[]⟩)]
theorem key_lit (k : ByteArray) (h1 : k.toList.isEmpty = false) (h2 : k.size ≤ 64) (h3 : brk k.data.toList = k.size) : keyG k := ⟨fun h => by rcases h with h | h; (rw [h1] at h; cases h); omega, h3⟩
theorem kgA : keyG kA := key_lit kA (by rw [toList_data]; rfl) (by decide) (by kernel_rfl)
theorem kgB : keyG kB := key_lit kB (by rw [toList_data]; rfl) (by decide) (by kernel_rfl)
theorem kgC : keyG kC := key_lit kC (by rw [toList_data]; rfl) (by decide) (by kernel_rfl)
theorem kAB : kc kA kB < 0 := by decide
theorem kAC : kc kA kC < 0 := by decide
theorem kBC : kc kB kC < 0 := by decide
theorem patA : Pat LA := ⟨fun q hq => by
  simp only [LA, List.mem_cons, List.not_mem_nil, or_false] at hq
  rcases hq with rfl | rfl
  · exact pairE_zero.2 ⟨kgA, chk_num 1⟩
  · exact pairE_zero.2 ⟨kgB, chk_num 2⟩, List.pairwise_cons.2 ⟨fun q hq => by rw [List.mem_singleton.1 hq]; exact kAB, List.pairwise_singleton _ _⟩⟩
theorem patB : Pat LB := ⟨fun q hq => by
  simp only [LB, List.mem_cons, List.not_mem_nil, or_false] at hq
  rcases hq with rfl | rfl
  · exact pairE_zero.2 ⟨kgB, chk_null⟩
  · exact pairE_zero.2 ⟨kgC, chk_num 3⟩, List.pairwise_cons.2 ⟨fun q hq => by rw [List.mem_singleton.1 hq]; exact kBC, List.pairwise_singleton _ _⟩⟩
theorem joinAB : jn (chC false) LA LB = LC := by
  have h1 : ¬ kc kB kB < 0 := by decide
  have h2 : kc kB kB = 0 := by decide
  show joinL _ ((kA, 2, 1, ⟨#[]⟩) :: (kB, 2, 2, ⟨#[]⟩) :: []) ((kB, 0, 0, ⟨#[]⟩) :: (kC, 2, 3, ⟨#[]⟩) :: []) = _
  rw [joinL, if_pos kAB, joinL, if_neg h1, if_pos h2, joinL, joinL]
  simp [fOf, chC, putO, LC, z0]
theorem row2 {w : World} {B : Nat} {q r : A2} (h1 : PairAt w B 0 q) (h2 : PairAt w B 4 r) : RowA w (.slice (some ⟨B, 0, none⟩) 2 2) [q, r] :=
  ⟨some ⟨B, 0, none⟩, 2, rfl, Nat.le_refl _, fun j x hx => ⟨B, 0, rfl, by
    match j, hx with
    | 0, hx => obtain rfl : q = x := by simpa using hx
               exact h1
    | 1, hx => obtain rfl : r = x := by simpa using hx
               exact h2
    | j + 2, hx => simp at hx⟩⟩

set_option maxHeartbeats 1000000 in
theorem lives_any {I : List Nat} {a : Nat → Addr} (w : World) (hI : ∀ i ∈ IX, i ∈ I) (hS : Std I a w) :
    Calls Tryd.prog 6 #[] w fun e w' => e = .returned (.bool true) ∧ Below w.heap.size w w' := by
  have c1 := fun (k : ByteArray) n W => one_any k n W
  have cC := fun va vb W (hW : Below w.heap.size w W) hA hB => comp_ok false va vb LA LB W hI (hS.below hW) hA hB patA.small patB.small (by decide) (both_zero patA.chk patB.chk)
  have cS := fun va vb W hA hB => refSame_any va vb LC LC W hA hB (by decide) (by decide)
  rw [joinAB] at cC
  simp only [decide_true] at cS
  clear hS hI
  go_enter Tryd.func6, Tryd.ntmps6
  go_wp2_with fail
  refine (c1 _ _ _).mono ?_; rintro e w1 ⟨rfl, b1⟩
  go_wp2_with fail
  refine (c1 _ _ _).mono ?_; rintro e w2 ⟨rfl, b2⟩
  have b2' := b1.trans (b2.mono b1.size)
  clear b1 b2
  go_wp2_with fail
  obtain ⟨W2, hW2⟩ : ∃ W2, W2 = w2.alloc (.cells #[.string ⟨#[97]⟩, .int .i64 2, .int .i64 1, .string ⟨#[]⟩, .string ⟨#[98]⟩, .int .i64 2, .int .i64 2, .string ⟨#[]⟩] 48) := ⟨_, rfl⟩
  have pA : RowA W2 (.slice (some ⟨w2.heap.size, 0, none⟩) 2 2) LA := row2 (by rw [hW2]; exact ⟨by simp, by simp, by simp, by simp⟩) (by rw [hW2]; exact ⟨by simp, by simp, by simp, by simp⟩)
  have b3 : Below w.heap.size w W2 := by rw [hW2]; exact b2'.alloc b2'.size _
  rw [← hW2]
  clear hW2 b2'
  refine (c1 _ _ _).mono ?_; rintro e w3 ⟨rfl, b4⟩
  have b5 := b3.trans (b4.mono b3.size)
  have pA3 := pA.below b4
  clear pA b3 b4
  go_wp2_with fail
  obtain ⟨W3, hW3⟩ : ∃ W3, W3 = w3.alloc (.cells #[.string ⟨#[98]⟩, .int .i64 0, .int .i64 0, .string ⟨#[]⟩, .string ⟨#[99]⟩, .int .i64 2, .int .i64 3, .string ⟨#[]⟩] 48) := ⟨_, rfl⟩
  have pB : RowA W3 (.slice (some ⟨w3.heap.size, 0, none⟩) 2 2) LB := row2 (by rw [hW3]; exact ⟨by simp, by simp, by simp, by simp⟩) (by rw [hW3]; exact ⟨by simp, by simp, by simp, by simp⟩)
  have pA4 : RowA W3 (.slice (some ⟨w2.heap.size, 0, none⟩) 2 2) LA := by rw [hW3]; exact pA3.below ((Below.refl _ _).alloc (Nat.le_refl _) _)
  have b6 : Below w.heap.size w W3 := by rw [hW3]; exact b5.alloc b5.size _
  rw [← hW3]
  clear hW3 b5 pA3
  refine (cC _ _ _ b6 pA4 pB).mono ?_; rintro e w4 ⟨v', rfl, own, b7⟩
  have r4 := own_rowA own
  have b8 := b6.trans (b7.mono b6.size)
  clear own b7 b6 pA4 pB cC
  go_wp2_with fail
  refine (c1 _ _ _).mono ?_; rintro e w5 ⟨rfl, b9⟩
  have b10 := b8.trans (b9.mono b8.size)
  have r5 := r4.below b9
  clear b8 b9 r4
  go_wp2_with fail
  refine (c1 _ _ _).mono ?_; rintro e w6 ⟨rfl, b11⟩
  have b12 := b10.trans (b11.mono b10.size)
  have r6 := r5.below b11
  clear b10 b11 r5
  go_wp2_with fail
  obtain ⟨W6, hW6⟩ : ∃ W6, W6 = w6.alloc (.cells #[.string ⟨#[97]⟩, .int .i64 2, .int .i64 1, .string ⟨#[]⟩, .string ⟨#[99]⟩, .int .i64 2, .int .i64 3, .string ⟨#[]⟩] 48) := ⟨_, rfl⟩
  have pC : RowA W6 (.slice (some ⟨w6.heap.size, 0, none⟩) 2 2) LC := row2 (by rw [hW6]; exact ⟨by simp, by simp, by simp, by simp⟩) (by rw [hW6]; exact ⟨by simp, by simp, by simp, by simp⟩)
  have r7 : RowA W6 v' LC := by rw [hW6]; exact r6.below ((Below.refl _ _).alloc (Nat.le_refl _) _)
  have b13 : Below w.heap.size w W6 := by rw [hW6]; exact b12.alloc b12.size _
  rw [← hW6]
  clear hW6 b12 r6
  have cS' := cS _ _ _ r7 pC
  refine cS'.mono ?_; rintro e w7 ⟨rfl, b14⟩
  go_wp2
  go_ret
  exact ⟨rfl, b13.trans (b14.mono b13.size)⟩
end Go.Proofs.YtigmhbgdnmkooaaDoor

/- Of all patches of at most 500 pairs vellumlaw03.AttrsOwns answers true. -/
namespace Go.Proofs.YtigmhbgdnmkooaaDoor
open Go Go.RowKit Go.Lib Go.Shelf
set_option linter.unusedVariables false

theorem owns_leave (n0 : World) (W : World) (D r : Nat) (tmps : Array Value) (hp : tmps[6]? = some (.pointer (some ⟨r, 0, none⟩))) (hc : W.cell? ⟨r, 0, none⟩ = some (.bool false))
    (hK : W.heap[D]? = some (.deferred (some []))) (h1 : n0.heap.size ≤ D) (h3 : n0.heap.size ≤ r) (hb : Below n0.heap.size n0 W) :
    bodyPostM Fence.wide 5 Tryd.prog Tryd.f5 (fun e w' => e = .returned (.bool true) ∧ Below n0.heap.size n0 w') Exit.ret
      { tmps := tmps, defers := [{ target := .collected D, args := #[] }] } (W.setCell ⟨r, 0, none⟩ (.bool true)) := by
  have k2 := (KeepsOthers.setCell W ⟨r, 0, none⟩ (.bool true)).same D _ hK rfl
  have c1 := World.cell?_setCell_same' W ⟨r, 0, none⟩ (.bool true) (by rw [hc]; rfl)
  have c3 := cell_kept c1 (grownBy_putObj' _ D (.deferred none)) (fun r e => by cases e; exact ⟨_, k2, rfl⟩)
  refine ⟨by simp, .inl ⟨_, _, rfl, run_takeDeferred k2, ?_⟩⟩
  refine ⟨.bool true, ?_, rfl, ?_⟩
  · simp [results, Tryd.results5, go_sem, hp, c3]
  · exact (hb.trans ((Below.refl _ W).setCell (p := ⟨r, 0, none⟩) h3 _)).trans (belowK_b (w := n0) (Nat.le_refl _) _ D _ _ h1 k2 rfl rfl)
theorem cell_new_lo (W : World) (v : Value) (t : TypeId) : (W.alloc (.cells #[v] t)).cell? ⟨W.heap.size, 0, none⟩ = some v ∧ (W.alloc (.cells #[v] t)).frozen? ⟨W.heap.size, 0, none⟩ = false :=
  ⟨by simp, by simp⟩
theorem cell_alloc_lo {W : World} {a : Addr} {v : Value} (o : Obj) (h : W.cell? a = some v) : (W.alloc o).cell? a = some v := cell_kept h (World.grownBy_alloc W o none) (fun r e => by cases e)
theorem boxes2o (w : World) (a b : Value) (ta tb : TypeId) (W0 : World) (h : (w.alloc (.cells #[a] ta)).alloc (.cells #[b] tb) = W0) :
    Below w.heap.size w W0 ∧ W0.heap.size = w.heap.size + 1 + 1 ∧ W0.cell? ⟨w.heap.size, 0, none⟩ = some a ∧ W0.cell? ⟨w.heap.size + 1, 0, none⟩ = some b ∧ W0.frozen? ⟨w.heap.size + 1, 0, none⟩ = false := by
  subst h
  have q0 := cell_new_lo w a ta
  have q1 := cell_new_lo (w.alloc (.cells #[a] ta)) b tb
  simp only [World.size_alloc] at q1
  exact ⟨((Below.refl _ w).alloc (Nat.le_refl _) _).alloc (by simp) _, by simp, cell_alloc_lo _ q0.1, q1.1, q1.2⟩
theorem box_newo (w : World) (a b : Value) (ta : TypeId) (W1 W0 : World) (h1 : w.alloc (.cells #[a] ta) = W1) (h : W1.setCell ⟨w.heap.size, 0, none⟩ b = W0) :
    Below w.heap.size w W0 ∧ W0.heap.size = w.heap.size + 1 ∧ W0.cell? ⟨w.heap.size, 0, none⟩ = some b ∧ W0.frozen? ⟨w.heap.size, 0, none⟩ = false := by
  subst h1
  subst h
  exact ⟨((Below.refl _ w).alloc (Nat.le_refl _) _).setCell (p := ⟨w.heap.size, 0, none⟩) (Nat.le_refl _) _, by simp, World.cell?_setCell_same' _ _ _ (by simp), by rw [World.frozen?_setCell]; simp⟩
theorem Out.beyond {lo hi : Nat} {a b c : World} (u : Out lo hi a b) (B : Below c.heap.size c a) (h : c.heap.size ≤ lo) : Below c.heap.size c b :=
  B.trans ⟨u.os, u.tape, u.output, u.size, fun k hk => u.block k (Nat.lt_of_lt_of_le hk B.size) (Or.inl (by omega))⟩
theorem Out.cellv {lo hi : Nat} {w w' : World} (h : Out lo hi w w') {g j : Nat} {u : Value} (hc : w.cell? ⟨g, j, none⟩ = some u) (hg : g < lo ∨ hi ≤ g) : w'.cell? ⟨g, j, none⟩ = some u :=
  (World.cell?_of_block (a := ⟨g, j, none⟩) (h.block g (lt_of_cell hc) hg)).trans hc
theorem TellAt.out {w w' : World} {x B lo hi : Nat} {L : List A2} (h : TellAt w x B L) (u : Out lo hi w w') (hB : hi ≤ B) (hx : hi ≤ x) : TellAt w' x B L := by
  obtain ⟨v, h1, h2⟩ := h
  exact ⟨v, u.cellv h1 (Or.inr hx), u.own hB h2⟩
theorem look_rev {L : List A2} (h : Up L) (k : ByteArray) : look k L.reverse = look k L := by
  have hn : ∀ {M : List A2}, look k M = none → ∀ q ∈ M, q.1 ≠ k := fun {M} => by
    induction M with
    | nil => intro _ q hq; cases hq
    | cons x r ih =>
      intro h q hq
      rw [look] at h
      split at h
      · cases h
      · rename_i hx
        rcases List.mem_cons.1 hq with rfl | hq
        · exact hx
        · exact ih h q hq
  cases hr : look k L.reverse with
  | some v => exact (mem_look h (List.mem_reverse.1 (look_mem hr))).symm
  | none => exact (look_none fun q hq => hn hr q (List.mem_reverse.2 hq)).symm
theorem ofL_patch {L : List A2} (h : Up L) : ofL L = L := by
  obtain ⟨u, l⟩ := fold_look L [] List.Pairwise.nil
  refine up_ext u h fun k => ?_
  rw [show look k (ofL L) = _ from l k, look_rev h, look]
  simp
theorem ofE_patch : ∀ {L : List A2}, Good L → ofE L = 0
  | [], _ => rfl
  | q :: r, h => by
    rw [ofE, if_pos (h q (List.mem_cons_self ..))]
    exact ofE_patch fun x hx => h x (List.mem_cons_of_mem _ hx)

set_option profiler true in
set_option profiler.threshold 2000 in
set_option maxHeartbeats 8000000 in
set_option maxRecDepth 100000 in
theorem owns_short {I : List Nat} {a : Nat → Addr} (va vb : Value) (A B : List A2) (on : Bool) (w : World) (hI : ∀ i ∈ IX, i ∈ I) (hS : Std I a w) (hA : RowA w va A) (hB : RowA w vb B) (zA : NilZ va) (zB : NilZ vb) (sA : Tiny A) (sB : Tiny B) (hl : A.length + B.length ≤ 500)
    (eA : listE true none A = 0) (eB : listE true none B = 0) :
    Calls Tryd.prog 5 #[va, vb, .bool on] w fun r w' => r = .returned (.bool true) ∧ Below w.heap.size w w' := by
  have mA := tiny_small sA
  have mB := tiny_small sB
  have pA := pat_of eA
  have pB := pat_of eB
  have hE := both_zero (na := true) (nb := true) eA eB
  have lj : ∀ ch, (jn ch A B).length ≤ 500 := fun ch => Nat.le_trans (jn_len ch A B) hl
  obtain ⟨C, hC⟩ : ∃ C, jn (chC on) A B = C := ⟨_, rfl⟩
  obtain ⟨T, hT⟩ : ∃ T, jn (chT on) A B = T := ⟨_, rfl⟩
  have lC : C.length ≤ 500 := by rw [← hC]; exact lj _
  have lT : T.length ≤ 500 := by rw [← hT]; exact lj _
  have cL : Hid (∀ W, Below w.heap.size w W → Calls Tryd.prog 6 #[] W fun r w' => r = .returned (.bool true) ∧ Below W.heap.size W w') := fun W hW => lives_any W hI (hS.below hW)
  have cN : Hid (∀ v L W, (v = va ∧ L = A) ∨ (v = vb ∧ L = B) → Below w.heap.size w W → Calls Tryd.prog 10 #[v, .bool true] W fun r w' => r = .returned (.int .i64 0) ∧ Below W.heap.size W w') := fun v L W h hW => by
    rcases h with ⟨rfl, rfl⟩ | ⟨rfl, rfl⟩
    · have := ref_check _ _ true W (hS.below hW) (hA.below hW) sA (by omega); rwa [eA] at this
    · have := ref_check _ _ true W (hS.below hW) (hB.below hW) sB (by omega); rwa [eB] at this
  have cA : Hid (∀ W, Below w.heap.size w W → Calls Tryd.prog 7 #[va] W fun r w' => ∃ v', r = .returned v' ∧ HandO w' W.heap.size w'.heap.size v' A ∧ Below W.heap.size W w') := fun W hW => hattrs_own va A W (hA.below hW) (by omega)
  have cB : Hid (∀ W, Below w.heap.size w W → Calls Tryd.prog 7 #[vb] W fun r w' => ∃ v', r = .returned v' ∧ HandO w' W.heap.size w'.heap.size v' B ∧ Below W.heap.size W w') := fun W hW => hattrs_own vb B W (hB.below hW) (by omega)
  have cO : Hid (∀ v W, Below w.heap.size w W → RowA W v A → Calls Tryd.prog 11 #[v] W fun r w' => ∃ v', r = .returned (.tuple #[v', .nilIface]) ∧ OwnA w' W.heap.size v' A ∧ Below W.heap.size W w') := fun v W hW h => (attrsOf_any v A W hI (hS.below hW) h mA (by omega)).mono fun r w' ⟨v', h1, h2, h3, h4⟩ => by
    have e0 := ofE_patch pA.good
    rw [e0, errOf_zero] at h1
    have := h2 e0
    rw [ofL_patch pA.up] at this
    exact ⟨v', h1, this, h4⟩
  have cC : Hid (∀ v v' W, Below w.heap.size w W → RowA W v A → RowA W v' B → Calls Tryd.prog 19 #[v, v', .bool on] W fun r w' => ∃ v', r = .returned (.tuple #[v', .nilIface]) ∧ OwnA w' W.heap.size v' C ∧ Below W.heap.size W w') := fun v v' W hW h h' => by
    rw [← hC]; exact comp_ok on v v' A B W hI (hS.below hW) h h' mA mB (by omega) hE
  have cT : Hid (∀ v v' W, Below w.heap.size w W → RowA W v A → RowA W v' B → Calls Tryd.prog 27 #[v, v', .bool on] W fun r w' => ∃ v', r = .returned (.tuple #[v', .nilIface]) ∧ OwnA w' W.heap.size v' T ∧ Below W.heap.size W w') := fun v v' W hW h h' => by
    rw [← hT]; exact tran_ok on v v' A B W hI (hS.below hW) h h' mA mB (by omega) hE
  have cR : Hid (∀ W, Below w.heap.size w W → Calls Tryd.prog 20 #[va, vb, .bool on] W fun r w' => ∃ v', r = .returned (.tuple #[v', .int .i64 0]) ∧ OwnA w' W.heap.size v' C ∧ Below W.heap.size W w') := fun W hW => by
    rw [← hC]
    cases on
    · exact rcomp_false_ok va vb A B W (hS.below hW) (hA.below hW) (hB.below hW) zA zB sA sB (by omega) hE
    · exact rcomp_true_ok va vb A B W (hS.below hW) (hA.below hW) (hB.below hW) zA zB sA sB (by omega) hE
  have cV : Hid (∀ W, Below w.heap.size w W → Calls Tryd.prog 32 #[va, vb, .bool on] W fun r w' => ∃ v', r = .returned v' ∧ OwnA w' W.heap.size v' T ∧ Below W.heap.size W w') := fun W hW => by
    rw [← hT, ← over_eq on pA.up pB.up]
    exact over_any va vb A B on W (hB.below hW) (by omega) (hA.below hW) (by omega)
  have cX : Hid (∀ v n L H W, LiR W L H W.heap.size v n → n ≤ 500 → Calls Tryd.prog 31 #[v] W fun r w' => r = .returned (.tuple #[]) ∧ Out L H W w') := fun v n L H W h hn => overAttrs_any v n L H W h (by omega)
  have cS : Hid (∀ v v' L W, RowA W v L → RowA W v' L → L.length ≤ 500 → Calls Tryd.prog 30 #[v, v'] W fun r w' => r = .returned (.bool true) ∧ Below W.heap.size W w') := fun v v' L W h h' hL => by
    have := refSame_any v v' L L W h h' (by omega) (by omega)
    simpa only [decide_true] using this
  have cKa : Hid (∀ v W, Below w.heap.size w W → HandA W v A → Calls Tryd.prog 18 #[v, va] W fun r w' => r = .returned (.bool true) ∧ Below W.heap.size W w') := fun v W hW h => kept_any v va A W h (hA.below hW) (by omega)
  have cKb : Hid (∀ v W, Below w.heap.size w W → HandA W v B → Calls Tryd.prog 18 #[v, vb] W fun r w' => r = .returned (.bool true) ∧ Below W.heap.size W w') := fun v W hW h => kept_any v vb B W h (hB.below hW) (by omega)
  have cE : Hid (∀ v W, Below w.heap.size w W → RowA W v A → Calls Tryd.prog 17 #[v] W fun r w' => ∃ x, r = .returned (.func (.func 48) #[] #[.pointer (some ⟨x, 0, none⟩)]) ∧ TellAt w' x W.heap.size A ∧ W.heap.size ≤ x ∧ Below W.heap.size W w') := fun v W hW h => by
    have := eachA_call v A W hI (hS.below hW) h mA (by omega)
    rwa [show toldL A = A by unfold toldL; rw [if_pos eA]] at this
  have HV : Hid (RowA w va A ∧ RowA w vb B) := ⟨hA, hB⟩
  obtain ⟨pa, ca, rfl, hca⟩ := hA.val
  obtain ⟨pb, cb, rfl, hcb⟩ := hB.val
  obtain ⟨n, hn⟩ : ∃ n, A.length = n := ⟨_, rfl⟩
  obtain ⟨m, hm⟩ : ∃ m, B.length = m := ⟨_, rfl⟩
  have HN : Hid (A.length = n ∧ B.length = m ∧ n + m ≤ 500 ∧ C.length ≤ 500 ∧ T.length ≤ 500) := ⟨hn, hm, by omega, lC, lT⟩
  rw [hn, hm] at hl
  rw [hn, hm] at cN cR cV
  rw [hn] at cA cKa
  rw [hm] at cB cKb
  rw [hn, hm] at HV ⊢
  have hwr : IntKind.i64.wrap ((n : Int) + m) = (n : Int) + m := by
    rw [IntKind.wrap_i64]; omega
  have hnI : ¬ (500 : Int) < (n : Int) + m := by omega
  have hnB : decide ((500 : Int) < (n : Int) + m) = false := decide_eq_false hnI
  clear hn hm hS hA hB zA zB sA sB hI eA eB mA mB pA pB hE lj hC hT lC lT hca hcb hl
  obtain ⟨W0, hW0⟩ : ∃ W0, (w.alloc (.cells #[.slice pa n ca] 22)).alloc (.cells #[.bool false] 4) = W0 := ⟨_, rfl⟩
  obtain ⟨hb0, hsz, hc0, hc2, hf2⟩ := boxes2o w _ _ _ _ W0 hW0
  have HB : Hid (∀ W, Below W0.heap.size W0 W → W.cell? ⟨w.heap.size, 0, none⟩ = some (.slice pa n ca) ∧ W.cell? ⟨w.heap.size + 1, 0, none⟩ = some (.bool false) ∧ W.frozen? ⟨w.heap.size + 1, 0, none⟩ = false) := fun W h =>
    ⟨(h.cell (lt_of_cell hc0)).trans hc0, (h.cell (lt_of_cell hc2)).trans hc2, (h.frozen (lt_of_cell hc2)).trans hf2⟩
  have cL0 := cL.out W0 hb0
  have HB0 : Hid (Below w.heap.size w W0 ∧ W0.heap.size = w.heap.size + 1 + 1) := ⟨hb0, hsz⟩
  clear cL hc0 hc2 hf2 hb0 hsz
  refine (callsIn_wide (n := 5)).1 ?_
  refine callsIn_of_wp_marks Tryd.func5 rfl trivial ?_ rfl
  simp only [Tryd.ntmps5, List.size_toArray, List.length_cons, List.length_nil, Nat.reduceAdd, Nat.reduceSub, Array.replicate_succ, Array.replicate_zero, List.push_toArray, List.append_toArray, List.nil_append, List.cons_append]
  rw [wpIn_wide]
  go_wp2_with fail
  clear hW0
  refine cL0.mono ?_; rintro r w1 ⟨rfl, b1⟩
  have D1 := b1
  have B1 := HB0.out.1.trans (b1.mono HB0.out.1.size)
  obtain ⟨k0, k2, f2⟩ := HB.out _ D1
  clear cL0 b1
  have c1 := cN.out _ _ _ (Or.inl ⟨rfl, rfl⟩) B1
  go_wp2_with fail
  refine c1.mono ?_; rintro r w2 ⟨rfl, b2⟩
  have D2 := D1.trans (b2.mono D1.size)
  have B2 := B1.trans (b2.mono B1.size)
  clear c1 k0 k2 f2 b2 B1 D1
  have c1 := cN.out _ _ _ (Or.inr ⟨rfl, rfl⟩) B2
  obtain ⟨k0, k2, f2⟩ := HB.out _ D2
  go_wp2_with fail
  refine c1.mono ?_; rintro r w3 ⟨rfl, b3⟩
  have D3 := D2.trans (b3.mono D2.size)
  have B3 := B2.trans (b3.mono B2.size)
  have Z : Hid (W0.heap.size ≤ w3.heap.size) := D3.size
  clear c1 k0 k2 f2 b3 B2 D2 cN
  have c1 := cA.out _ B3
  obtain ⟨k0, k2, f2⟩ := HB.out _ D3
  go_wp2_with fail
  refine c1.mono ?_; rintro r w4 ⟨vx, rfl, hn, bn⟩
  have D4 := D3.trans (bn.mono D3.size)
  have B4 := B3.trans (bn.mono B3.size)
  have Z' : Hid (W0.heap.size ≤ w3.heap.size ∧ w3.heap.size ≤ w4.heap.size) := ⟨Z.out, bn.size⟩
  have H' : Hid (HandO w4 w3.heap.size w4.heap.size vx A) := hn
  clear c1 k0 k2 f2 hn bn B3 D3 Z
  have Z := Z'
  have H := H'
  clear H' Z'
  have c1 := cB.out _ B4
  obtain ⟨k0, k2, f2⟩ := HB.out _ D4
  go_wp2_with fail
  refine c1.mono ?_; rintro r w5 ⟨vy, rfl, hn, bn⟩
  have D5 := D4.trans (bn.mono D4.size)
  have B5 := B4.trans (bn.mono B4.size)
  have Z' : Hid (W0.heap.size ≤ w3.heap.size ∧ w3.heap.size ≤ w4.heap.size ∧ w4.heap.size ≤ w5.heap.size) := ⟨Z.out.1, Z.out.2, bn.size⟩
  have H' : Hid (HandO w5 w3.heap.size w4.heap.size vx A ∧ HandO w5 w4.heap.size w5.heap.size vy B) := ⟨H.out.below bn, hn⟩
  clear c1 k0 k2 f2 hn bn B4 D4 Z H
  have Z := Z'
  have H := H'
  clear H' Z'
  have c1 := cO.out _ _ B5 H.out.1.hand.2.1
  obtain ⟨k0, k2, f2⟩ := HB.out _ D5
  go_wp2_with fail
  refine c1.mono ?_; rintro r w6 ⟨vl, rfl, hn, bn⟩
  have D6 := D5.trans (bn.mono D5.size)
  have B6 := B5.trans (bn.mono B5.size)
  have Z' : Hid (W0.heap.size ≤ w3.heap.size ∧ w3.heap.size ≤ w4.heap.size ∧ w4.heap.size ≤ w5.heap.size ∧ w5.heap.size ≤ w6.heap.size) := ⟨Z.out.1, Z.out.2.1, Z.out.2.2, bn.size⟩
  have H' : Hid (HandO w6 w3.heap.size w4.heap.size vx A ∧ HandO w6 w4.heap.size w5.heap.size vy B ∧ InA w6 w5.heap.size w6.heap.size vl A) := ⟨H.out.1.below bn, H.out.2.below bn, InA.new hn⟩
  clear c1 k0 k2 f2 hn bn B5 D5 Z H
  have Z := Z'
  have H := H'
  clear H' Z'
  have c1 := cO.out _ _ B6 H.out.1.hand.2.1
  obtain ⟨k0, k2, f2⟩ := HB.out _ D6
  go_wp2_with fail
  refine c1.mono ?_; rintro r w7 ⟨vm, rfl, hn, bn⟩
  have D7 := D6.trans (bn.mono D6.size)
  have B7 := B6.trans (bn.mono B6.size)
  have Z' : Hid (W0.heap.size ≤ w3.heap.size ∧ w3.heap.size ≤ w4.heap.size ∧ w4.heap.size ≤ w5.heap.size ∧ w5.heap.size ≤ w6.heap.size ∧ w6.heap.size ≤ w7.heap.size) := ⟨Z.out.1, Z.out.2.1, Z.out.2.2.1, Z.out.2.2.2, bn.size⟩
  have H' : Hid (HandO w7 w3.heap.size w4.heap.size vx A ∧ HandO w7 w4.heap.size w5.heap.size vy B ∧ InA w7 w5.heap.size w6.heap.size vl A ∧ InA w7 w6.heap.size w7.heap.size vm A) := ⟨H.out.1.below bn, H.out.2.1.below bn, H.out.2.2.below bn, InA.new hn⟩
  clear c1 k0 k2 f2 hn bn B6 D6 Z H
  have Z := Z'
  have H := H'
  clear H' Z'
  have c1 := cC.out _ _ _ B7 H.out.1.hand.2.1 H.out.2.1.hand.2.1
  obtain ⟨k0, k2, f2⟩ := HB.out _ D7
  go_wp2_with fail
  refine c1.mono ?_; rintro r w8 ⟨vp, rfl, hn, bn⟩
  have D8 := D7.trans (bn.mono D7.size)
  have B8 := B7.trans (bn.mono B7.size)
  have Z' : Hid (W0.heap.size ≤ w3.heap.size ∧ w3.heap.size ≤ w4.heap.size ∧ w4.heap.size ≤ w5.heap.size ∧ w5.heap.size ≤ w6.heap.size ∧ w6.heap.size ≤ w7.heap.size ∧ w7.heap.size ≤ w8.heap.size) := ⟨Z.out.1, Z.out.2.1, Z.out.2.2.1, Z.out.2.2.2.1, Z.out.2.2.2.2, bn.size⟩
  have H' : Hid (HandO w8 w3.heap.size w4.heap.size vx A ∧ HandO w8 w4.heap.size w5.heap.size vy B ∧ InA w8 w5.heap.size w6.heap.size vl A ∧ InA w8 w6.heap.size w7.heap.size vm A ∧ InA w8 w7.heap.size w8.heap.size vp C) := ⟨H.out.1.below bn, H.out.2.1.below bn, H.out.2.2.1.below bn, H.out.2.2.2.below bn, InA.new hn⟩
  clear c1 k0 k2 f2 hn bn B7 D7 Z H
  have Z := Z'
  have H := H'
  clear H' Z'
  have c1 := cC.out _ _ _ B8 H.out.1.hand.2.1 H.out.2.1.hand.2.1
  obtain ⟨k0, k2, f2⟩ := HB.out _ D8
  go_wp2_with fail
  refine c1.mono ?_; rintro r w9 ⟨vq, rfl, hn, bn⟩
  have D9 := D8.trans (bn.mono D8.size)
  have B9 := B8.trans (bn.mono B8.size)
  have Z' : Hid (W0.heap.size ≤ w3.heap.size ∧ w3.heap.size ≤ w4.heap.size ∧ w4.heap.size ≤ w5.heap.size ∧ w5.heap.size ≤ w6.heap.size ∧ w6.heap.size ≤ w7.heap.size ∧ w7.heap.size ≤ w8.heap.size ∧ w8.heap.size ≤ w9.heap.size) := ⟨Z.out.1, Z.out.2.1, Z.out.2.2.1, Z.out.2.2.2.1, Z.out.2.2.2.2.1, Z.out.2.2.2.2.2, bn.size⟩
  have H' : Hid (HandO w9 w3.heap.size w4.heap.size vx A ∧ HandO w9 w4.heap.size w5.heap.size vy B ∧ InA w9 w5.heap.size w6.heap.size vl A ∧ InA w9 w6.heap.size w7.heap.size vm A ∧ InA w9 w7.heap.size w8.heap.size vp C ∧ InA w9 w8.heap.size w9.heap.size vq C) := ⟨H.out.1.below bn, H.out.2.1.below bn, H.out.2.2.1.below bn, H.out.2.2.2.1.below bn, H.out.2.2.2.2.below bn, InA.new hn⟩
  clear c1 k0 k2 f2 hn bn B8 D8 Z H
  have Z := Z'
  have H := H'
  clear H' Z'
  have c1 := cT.out _ _ _ B9 H.out.1.hand.2.1 H.out.2.1.hand.2.1
  obtain ⟨k0, k2, f2⟩ := HB.out _ D9
  go_wp2_with fail
  refine c1.mono ?_; rintro r w10 ⟨vs, rfl, hn, bn⟩
  have D10 := D9.trans (bn.mono D9.size)
  have B10 := B9.trans (bn.mono B9.size)
  have Z' : Hid (W0.heap.size ≤ w3.heap.size ∧ w3.heap.size ≤ w4.heap.size ∧ w4.heap.size ≤ w5.heap.size ∧ w5.heap.size ≤ w6.heap.size ∧ w6.heap.size ≤ w7.heap.size ∧ w7.heap.size ≤ w8.heap.size ∧ w8.heap.size ≤ w9.heap.size ∧ w9.heap.size ≤ w10.heap.size) := ⟨Z.out.1, Z.out.2.1, Z.out.2.2.1, Z.out.2.2.2.1, Z.out.2.2.2.2.1, Z.out.2.2.2.2.2.1, Z.out.2.2.2.2.2.2, bn.size⟩
  have H' : Hid (HandO w10 w3.heap.size w4.heap.size vx A ∧ HandO w10 w4.heap.size w5.heap.size vy B ∧ InA w10 w5.heap.size w6.heap.size vl A ∧ InA w10 w6.heap.size w7.heap.size vm A ∧ InA w10 w7.heap.size w8.heap.size vp C ∧ InA w10 w8.heap.size w9.heap.size vq C ∧ InA w10 w9.heap.size w10.heap.size vs T) := ⟨H.out.1.below bn, H.out.2.1.below bn, H.out.2.2.1.below bn, H.out.2.2.2.1.below bn, H.out.2.2.2.2.1.below bn, H.out.2.2.2.2.2.below bn, InA.new hn⟩
  clear c1 k0 k2 f2 hn bn B9 D9 Z H
  have Z := Z'
  have H := H'
  clear H' Z'
  have c1 := cT.out _ _ _ B10 H.out.1.hand.2.1 H.out.2.1.hand.2.1
  obtain ⟨k0, k2, f2⟩ := HB.out _ D10
  go_wp2_with fail
  refine c1.mono ?_; rintro r w11 ⟨vt, rfl, hn, bn⟩
  have D11 := D10.trans (bn.mono D10.size)
  have B11 := B10.trans (bn.mono B10.size)
  have Z' : Hid (W0.heap.size ≤ w3.heap.size ∧ w3.heap.size ≤ w4.heap.size ∧ w4.heap.size ≤ w5.heap.size ∧ w5.heap.size ≤ w6.heap.size ∧ w6.heap.size ≤ w7.heap.size ∧ w7.heap.size ≤ w8.heap.size ∧ w8.heap.size ≤ w9.heap.size ∧ w9.heap.size ≤ w10.heap.size ∧ w10.heap.size ≤ w11.heap.size) := ⟨Z.out.1, Z.out.2.1, Z.out.2.2.1, Z.out.2.2.2.1, Z.out.2.2.2.2.1, Z.out.2.2.2.2.2.1, Z.out.2.2.2.2.2.2.1, Z.out.2.2.2.2.2.2.2, bn.size⟩
  have H' : Hid (HandO w11 w3.heap.size w4.heap.size vx A ∧ HandO w11 w4.heap.size w5.heap.size vy B ∧ InA w11 w5.heap.size w6.heap.size vl A ∧ InA w11 w6.heap.size w7.heap.size vm A ∧ InA w11 w7.heap.size w8.heap.size vp C ∧ InA w11 w8.heap.size w9.heap.size vq C ∧ InA w11 w9.heap.size w10.heap.size vs T ∧ InA w11 w10.heap.size w11.heap.size vt T) := ⟨H.out.1.below bn, H.out.2.1.below bn, H.out.2.2.1.below bn, H.out.2.2.2.1.below bn, H.out.2.2.2.2.1.below bn, H.out.2.2.2.2.2.1.below bn, H.out.2.2.2.2.2.2.below bn, InA.new hn⟩
  clear c1 k0 k2 f2 hn bn B10 D10 Z H
  have Z := Z'
  have H := H'
  clear H' Z'
  have c1 := cR.out _ B11
  obtain ⟨k0, k2, f2⟩ := HB.out _ D11
  go_wp2_with fail
  refine c1.mono ?_; rintro r w12 ⟨vg, rfl, hn, bn⟩
  have D12 := D11.trans (bn.mono D11.size)
  have B12 := B11.trans (bn.mono B11.size)
  have Z' : Hid (W0.heap.size ≤ w3.heap.size ∧ w3.heap.size ≤ w4.heap.size ∧ w4.heap.size ≤ w5.heap.size ∧ w5.heap.size ≤ w6.heap.size ∧ w6.heap.size ≤ w7.heap.size ∧ w7.heap.size ≤ w8.heap.size ∧ w8.heap.size ≤ w9.heap.size ∧ w9.heap.size ≤ w10.heap.size ∧ w10.heap.size ≤ w11.heap.size ∧ w11.heap.size ≤ w12.heap.size) := ⟨Z.out.1, Z.out.2.1, Z.out.2.2.1, Z.out.2.2.2.1, Z.out.2.2.2.2.1, Z.out.2.2.2.2.2.1, Z.out.2.2.2.2.2.2.1, Z.out.2.2.2.2.2.2.2.1, Z.out.2.2.2.2.2.2.2.2, bn.size⟩
  have H' : Hid (HandO w12 w3.heap.size w4.heap.size vx A ∧ HandO w12 w4.heap.size w5.heap.size vy B ∧ InA w12 w5.heap.size w6.heap.size vl A ∧ InA w12 w6.heap.size w7.heap.size vm A ∧ InA w12 w7.heap.size w8.heap.size vp C ∧ InA w12 w8.heap.size w9.heap.size vq C ∧ InA w12 w9.heap.size w10.heap.size vs T ∧ InA w12 w10.heap.size w11.heap.size vt T ∧ InA w12 w11.heap.size w12.heap.size vg C) := ⟨H.out.1.below bn, H.out.2.1.below bn, H.out.2.2.1.below bn, H.out.2.2.2.1.below bn, H.out.2.2.2.2.1.below bn, H.out.2.2.2.2.2.1.below bn, H.out.2.2.2.2.2.2.1.below bn, H.out.2.2.2.2.2.2.2.below bn, InA.new hn⟩
  clear c1 k0 k2 f2 hn bn B11 D11 Z H
  have Z := Z'
  have H := H'
  clear H' Z'
  obtain ⟨pl, nl, cl, rfl⟩ : ∃ p n c, vl = .slice p n c := by obtain ⟨p, c, h⟩ := own_slice H.out.2.2.1.own; exact ⟨_, _, _, h⟩
  obtain ⟨pp, np, cp, rfl⟩ : ∃ p n c, vp = .slice p n c := by obtain ⟨p, c, h⟩ := own_slice H.out.2.2.2.2.1.own; exact ⟨_, _, _, h⟩
  obtain ⟨ps, ns, cs, rfl⟩ : ∃ p n c, vs = .slice p n c := by obtain ⟨p, c, h⟩ := own_slice H.out.2.2.2.2.2.2.1.own; exact ⟨_, _, _, h⟩
  obtain ⟨k0, k2, f2⟩ := HB.out _ D12
  go_wp2_with fail
  obtain ⟨w13, hw13⟩ : ∃ w13, w12.alloc (.cells #[.slice pl nl cl, .slice pp np cp, .slice ps ns cs] 22) = w13 := ⟨_, rfl⟩
  have bn : Below w12.heap.size w12 w13 := by rw [← hw13]; exact (Below.refl _ _).alloc (Nat.le_refl _) _
  have q0 : w13.cell? ⟨w12.heap.size, 0, none⟩ = some (.slice pl nl cl) := by rw [← hw13]; simp
  have q1 : w13.cell? ⟨w12.heap.size, 1, none⟩ = some (.slice pp np cp) := by rw [← hw13]; simp
  have q2 : w13.cell? ⟨w12.heap.size, 2, none⟩ = some (.slice ps ns cs) := by rw [← hw13]; simp
  rw [hw13]
  have D13 := D12.trans (bn.mono D12.size)
  have B13 := B12.trans (bn.mono B12.size)
  have H' : Hid (HandO w13 w3.heap.size w4.heap.size vx A ∧ HandO w13 w4.heap.size w5.heap.size vy B ∧ InA w13 w5.heap.size w6.heap.size (.slice pl nl cl) A ∧ InA w13 w6.heap.size w7.heap.size vm A ∧ InA w13 w7.heap.size w8.heap.size (.slice pp np cp) C ∧ InA w13 w8.heap.size w9.heap.size vq C ∧ InA w13 w9.heap.size w10.heap.size (.slice ps ns cs) T ∧ InA w13 w10.heap.size w11.heap.size vt T ∧ InA w13 w11.heap.size w12.heap.size vg C) := ⟨H.out.1.below bn, H.out.2.1.below bn, H.out.2.2.1.below bn, H.out.2.2.2.1.below bn, H.out.2.2.2.2.1.below bn, H.out.2.2.2.2.2.1.below bn, H.out.2.2.2.2.2.2.1.below bn, H.out.2.2.2.2.2.2.2.1.below bn, H.out.2.2.2.2.2.2.2.2.below bn⟩
  have M : Hid (w12.heap.size ≤ w13.heap.size) := bn.size
  have M : Hid (w12.heap.size ≤ w13.heap.size) := bn.size
  have M : Hid (w12.heap.size ≤ w13.heap.size) := bn.size
  have M : Hid (w12.heap.size ≤ w13.heap.size) := bn.size
  clear hw13 k0 k2 f2 bn B12 D12 H cA cB cO cC cT cR
  have H := H'
  clear H'
  refine wp_loop_rounds 4 ?_
  rw [rounds_succ]
  have c1 := cX.out _ _ _ _ _ (LiR.of_own (B := w13.heap.size) H.out.2.2.1) (by have := HN.out; omega)
  obtain ⟨k0, k2, f2⟩ := HB.out _ D13
  go_wp2_with fail
  refine c1.mono ?_; rintro r w14 ⟨rfl, un⟩
  have M' : Hid (w12.heap.size ≤ w14.heap.size) := Nat.le_trans M.out un.size
  clear M
  have M := M'
  clear M'
  have D14 := un.beyond D13 (by have := Z.out; omega)
  have B14 := un.beyond B13 (by have := Z.out; have := HB0.out.2; omega)
  have t0 := un.cellv q0 (Or.inr (by have := Z.out; omega))
  have t1 := un.cellv q1 (Or.inr (by have := Z.out; omega))
  have t2 := un.cellv q2 (Or.inr (by have := Z.out; omega))
  have H' : Hid (HandO w14 w3.heap.size w4.heap.size vx A ∧ HandO w14 w4.heap.size w5.heap.size vy B ∧ InA w14 w6.heap.size w7.heap.size vm A ∧ InA w14 w7.heap.size w8.heap.size (.slice pp np cp) C ∧ InA w14 w8.heap.size w9.heap.size vq C ∧ InA w14 w9.heap.size w10.heap.size (.slice ps ns cs) T ∧ InA w14 w10.heap.size w11.heap.size vt T ∧ InA w14 w11.heap.size w12.heap.size vg C) := ⟨H.out.1.out un (by have := Z.out; omega), H.out.2.1.out un (by have := Z.out; omega), H.out.2.2.2.1.out un (by have := Z.out; omega), H.out.2.2.2.2.1.out un (by have := Z.out; omega), H.out.2.2.2.2.2.1.out un (by have := Z.out; omega), H.out.2.2.2.2.2.2.1.out un (by have := Z.out; omega), H.out.2.2.2.2.2.2.2.1.out un (by have := Z.out; omega), H.out.2.2.2.2.2.2.2.2.out un (by have := Z.out; omega)⟩
  clear c1 k0 k2 f2 un q0 q1 q2 B13 D13 H
  have H := H'
  have q0 := t0
  have q1 := t1
  have q2 := t2
  clear H' t0 t1 t2
  go_wp2_with fail
  rw [rounds_succ]
  have c1 := cX.out _ _ _ _ _ (LiR.of_own (B := w14.heap.size) H.out.2.2.2.1) (by have := HN.out; omega)
  obtain ⟨k0, k2, f2⟩ := HB.out _ D14
  go_wp2_with fail
  refine c1.mono ?_; rintro r w15 ⟨rfl, un⟩
  have M' : Hid (w12.heap.size ≤ w15.heap.size) := Nat.le_trans M.out un.size
  clear M
  have M := M'
  clear M'
  have D15 := un.beyond D14 (by have := Z.out; omega)
  have B15 := un.beyond B14 (by have := Z.out; have := HB0.out.2; omega)
  have t0 := un.cellv q0 (Or.inr (by have := Z.out; omega))
  have t1 := un.cellv q1 (Or.inr (by have := Z.out; omega))
  have t2 := un.cellv q2 (Or.inr (by have := Z.out; omega))
  have H' : Hid (HandO w15 w3.heap.size w4.heap.size vx A ∧ HandO w15 w4.heap.size w5.heap.size vy B ∧ InA w15 w6.heap.size w7.heap.size vm A ∧ InA w15 w8.heap.size w9.heap.size vq C ∧ InA w15 w9.heap.size w10.heap.size (.slice ps ns cs) T ∧ InA w15 w10.heap.size w11.heap.size vt T ∧ InA w15 w11.heap.size w12.heap.size vg C) := ⟨H.out.1.out un (by have := Z.out; omega), H.out.2.1.out un (by have := Z.out; omega), H.out.2.2.1.out un (by have := Z.out; omega), H.out.2.2.2.2.1.out un (by have := Z.out; omega), H.out.2.2.2.2.2.1.out un (by have := Z.out; omega), H.out.2.2.2.2.2.2.1.out un (by have := Z.out; omega), H.out.2.2.2.2.2.2.2.out un (by have := Z.out; omega)⟩
  clear c1 k0 k2 f2 un q0 q1 q2 B14 D14 H
  have H := H'
  have q0 := t0
  have q1 := t1
  have q2 := t2
  clear H' t0 t1 t2
  go_wp2_with fail
  rw [rounds_succ]
  have c1 := cX.out _ _ _ _ _ (LiR.of_own (B := w15.heap.size) H.out.2.2.2.2.1) (by have := HN.out; omega)
  obtain ⟨k0, k2, f2⟩ := HB.out _ D15
  go_wp2_with fail
  refine c1.mono ?_; rintro r w16 ⟨rfl, un⟩
  have M' : Hid (w12.heap.size ≤ w16.heap.size) := Nat.le_trans M.out un.size
  clear M
  have M := M'
  clear M'
  have D16 := un.beyond D15 (by have := Z.out; omega)
  have B16 := un.beyond B15 (by have := Z.out; have := HB0.out.2; omega)
  have t0 := un.cellv q0 (Or.inr (by have := Z.out; omega))
  have t1 := un.cellv q1 (Or.inr (by have := Z.out; omega))
  have t2 := un.cellv q2 (Or.inr (by have := Z.out; omega))
  have H' : Hid (HandO w16 w3.heap.size w4.heap.size vx A ∧ HandO w16 w4.heap.size w5.heap.size vy B ∧ InA w16 w6.heap.size w7.heap.size vm A ∧ InA w16 w8.heap.size w9.heap.size vq C ∧ InA w16 w10.heap.size w11.heap.size vt T ∧ InA w16 w11.heap.size w12.heap.size vg C) := ⟨H.out.1.out un (by have := Z.out; omega), H.out.2.1.out un (by have := Z.out; omega), H.out.2.2.1.out un (by have := Z.out; omega), H.out.2.2.2.1.out un (by have := Z.out; omega), H.out.2.2.2.2.2.1.out un (by have := Z.out; omega), H.out.2.2.2.2.2.2.out un (by have := Z.out; omega)⟩
  clear c1 k0 k2 f2 un q0 q1 q2 B15 D15 H
  have H := H'
  have q0 := t0
  have q1 := t1
  have q2 := t2
  clear H' t0 t1 t2
  go_wp2_with fail
  rw [rounds_succ]
  clear q0 q1 q2
  have c1 := cS.out _ _ _ _ H.out.2.2.1.row (HV.out.1.below B16) (by have := HN.out; omega)
  obtain ⟨k0, k2, f2⟩ := HB.out _ D16
  go_wp2_with fail
  refine c1.mono ?_; rintro r w17 ⟨rfl, bn⟩
  have D17 := D16.trans (bn.mono D16.size)
  have B17 := B16.trans (bn.mono B16.size)
  have H' : Hid (HandO w17 w3.heap.size w4.heap.size vx A ∧ HandO w17 w4.heap.size w5.heap.size vy B ∧ InA w17 w6.heap.size w7.heap.size vm A ∧ InA w17 w8.heap.size w9.heap.size vq C ∧ InA w17 w10.heap.size w11.heap.size vt T ∧ InA w17 w11.heap.size w12.heap.size vg C) := ⟨H.out.1.below bn, H.out.2.1.below bn, H.out.2.2.1.below bn, H.out.2.2.2.1.below bn, H.out.2.2.2.2.1.below bn, H.out.2.2.2.2.2.below bn⟩
  have M' : Hid (w12.heap.size ≤ w17.heap.size) := Nat.le_trans M.out bn.size
  clear c1 k0 k2 f2 bn B16 D16 H M
  have H := H'
  have M := M'
  clear H' M'
  have c1 := cS.out _ _ _ _ H.out.2.2.2.1.row H.out.2.2.2.2.2.row (by have := HN.out; omega)
  obtain ⟨k0, k2, f2⟩ := HB.out _ D17
  go_wp2_with fail
  refine c1.mono ?_; rintro r w18 ⟨rfl, bn⟩
  have D18 := D17.trans (bn.mono D17.size)
  have B18 := B17.trans (bn.mono B17.size)
  have H' : Hid (HandO w18 w3.heap.size w4.heap.size vx A ∧ HandO w18 w4.heap.size w5.heap.size vy B ∧ InA w18 w6.heap.size w7.heap.size vm A ∧ InA w18 w8.heap.size w9.heap.size vq C ∧ InA w18 w10.heap.size w11.heap.size vt T ∧ InA w18 w11.heap.size w12.heap.size vg C) := ⟨H.out.1.below bn, H.out.2.1.below bn, H.out.2.2.1.below bn, H.out.2.2.2.1.below bn, H.out.2.2.2.2.1.below bn, H.out.2.2.2.2.2.below bn⟩
  have M' : Hid (w12.heap.size ≤ w18.heap.size) := Nat.le_trans M.out bn.size
  clear c1 k0 k2 f2 bn B17 D17 H M
  have H := H'
  have M := M'
  clear H' M'
  have c1 := cV.out _ B18
  obtain ⟨k0, k2, f2⟩ := HB.out _ D18
  go_wp2_with fail
  refine c1.mono ?_; rintro r w19 ⟨vo, rfl, ho, bn⟩
  have D19 := D18.trans (bn.mono D18.size)
  have B19 := B18.trans (bn.mono B18.size)
  have H' : Hid (HandO w19 w3.heap.size w4.heap.size vx A ∧ HandO w19 w4.heap.size w5.heap.size vy B ∧ InA w19 w6.heap.size w7.heap.size vm A ∧ InA w19 w8.heap.size w9.heap.size vq C ∧ InA w19 w10.heap.size w11.heap.size vt T ∧ InA w19 w11.heap.size w12.heap.size vg C) := ⟨H.out.1.below bn, H.out.2.1.below bn, H.out.2.2.1.below bn, H.out.2.2.2.1.below bn, H.out.2.2.2.2.1.below bn, H.out.2.2.2.2.2.below bn⟩
  have M' : Hid (w12.heap.size ≤ w19.heap.size) := Nat.le_trans M.out bn.size
  have HO : Hid (RowA w19 vo T) := own_rowA ho
  clear ho
  clear c1 k0 k2 f2 bn B18 D18 H M
  have H := H'
  have M := M'
  clear H' M'
  have c1 := cS.out _ _ _ _ H.out.2.2.2.2.1.row HO.out (by have := HN.out; omega)
  obtain ⟨k0, k2, f2⟩ := HB.out _ D19
  go_wp2_with fail
  refine c1.mono ?_; rintro r w20 ⟨rfl, bn⟩
  have D20 := D19.trans (bn.mono D19.size)
  have B20 := B19.trans (bn.mono B19.size)
  have H' : Hid (HandO w20 w3.heap.size w4.heap.size vx A ∧ HandO w20 w4.heap.size w5.heap.size vy B ∧ InA w20 w6.heap.size w7.heap.size vm A ∧ InA w20 w8.heap.size w9.heap.size vq C ∧ InA w20 w10.heap.size w11.heap.size vt T ∧ InA w20 w11.heap.size w12.heap.size vg C) := ⟨H.out.1.below bn, H.out.2.1.below bn, H.out.2.2.1.below bn, H.out.2.2.2.1.below bn, H.out.2.2.2.2.1.below bn, H.out.2.2.2.2.2.below bn⟩
  have M' : Hid (w12.heap.size ≤ w20.heap.size) := Nat.le_trans M.out bn.size
  clear HO
  clear c1 k0 k2 f2 bn B19 D19 H M
  have H := H'
  have M := M'
  clear H' M'
  have c1 := cKa.out _ _ B20 H.out.1.hand
  obtain ⟨k0, k2, f2⟩ := HB.out _ D20
  go_wp2_with fail
  refine c1.mono ?_; rintro r w21 ⟨rfl, bn⟩
  have D21 := D20.trans (bn.mono D20.size)
  have B21 := B20.trans (bn.mono B20.size)
  have H' : Hid (HandO w21 w3.heap.size w4.heap.size vx A ∧ HandO w21 w4.heap.size w5.heap.size vy B ∧ InA w21 w6.heap.size w7.heap.size vm A ∧ InA w21 w8.heap.size w9.heap.size vq C ∧ InA w21 w10.heap.size w11.heap.size vt T ∧ InA w21 w11.heap.size w12.heap.size vg C) := ⟨H.out.1.below bn, H.out.2.1.below bn, H.out.2.2.1.below bn, H.out.2.2.2.1.below bn, H.out.2.2.2.2.1.below bn, H.out.2.2.2.2.2.below bn⟩
  have M' : Hid (w12.heap.size ≤ w21.heap.size) := Nat.le_trans M.out bn.size
  clear c1 k0 k2 f2 bn B20 D20 H M
  have H := H'
  have M := M'
  clear H' M'
  have c1 := cKb.out _ _ B21 H.out.2.1.hand
  obtain ⟨k0, k2, f2⟩ := HB.out _ D21
  go_wp2_with fail
  refine c1.mono ?_; rintro r w22 ⟨rfl, bn⟩
  have D22 := D21.trans (bn.mono D21.size)
  have B22 := B21.trans (bn.mono B21.size)
  have H' : Hid (HandO w22 w3.heap.size w4.heap.size vx A ∧ HandO w22 w4.heap.size w5.heap.size vy B ∧ InA w22 w6.heap.size w7.heap.size vm A ∧ InA w22 w8.heap.size w9.heap.size vq C ∧ InA w22 w10.heap.size w11.heap.size vt T ∧ InA w22 w11.heap.size w12.heap.size vg C) := ⟨H.out.1.below bn, H.out.2.1.below bn, H.out.2.2.1.below bn, H.out.2.2.2.1.below bn, H.out.2.2.2.2.1.below bn, H.out.2.2.2.2.2.below bn⟩
  have M' : Hid (w12.heap.size ≤ w22.heap.size) := Nat.le_trans M.out bn.size
  clear c1 k0 k2 f2 bn B21 D21 H M
  have H := H'
  have M := M'
  clear H' M'
  have c1 := cE.out _ _ B22 H.out.1.hand.2.1
  obtain ⟨k0, k2, f2⟩ := HB.out _ D22
  go_wp2_with fail
  refine c1.mono ?_; rintro r w23 ⟨Y, rfl, hT, hYB, bn⟩
  have D23 := D22.trans (bn.mono D22.size)
  have B23 := B22.trans (bn.mono B22.size)
  have H' : Hid (HandO w23 w3.heap.size w4.heap.size vx A ∧ HandO w23 w4.heap.size w5.heap.size vy B ∧ InA w23 w6.heap.size w7.heap.size vm A ∧ InA w23 w8.heap.size w9.heap.size vq C ∧ InA w23 w10.heap.size w11.heap.size vt T ∧ InA w23 w11.heap.size w12.heap.size vg C) := ⟨H.out.1.below bn, H.out.2.1.below bn, H.out.2.2.1.below bn, H.out.2.2.2.1.below bn, H.out.2.2.2.2.1.below bn, H.out.2.2.2.2.2.below bn⟩
  have M' : Hid (w12.heap.size ≤ w23.heap.size) := Nat.le_trans M.out bn.size
  have TE : Hid (w12.heap.size ≤ w22.heap.size ∧ w22.heap.size ≤ Y ∧ TellAt w23 Y w22.heap.size A) := ⟨M.out, hYB, hT⟩
  clear hT hYB
  clear c1 k0 k2 f2 bn B22 D22 H M
  have H := H'
  have M := M'
  clear H' M'
  have c1 := cX.out _ _ _ _ _ (HandO.li (B := w23.heap.size) H.out.1) (by have := HN.out; omega)
  obtain ⟨k0, k2, f2⟩ := HB.out _ D23
  go_wp2_with fail
  refine c1.mono ?_; rintro r w24 ⟨rfl, un⟩
  have D24 := un.beyond D23 (by have := Z.out; omega)
  have B24 := un.beyond B23 (by have := Z.out; have := HB0.out.2; omega)
  have H' : Hid (HandO w24 w4.heap.size w5.heap.size vy B ∧ InA w24 w6.heap.size w7.heap.size vm A ∧ InA w24 w8.heap.size w9.heap.size vq C ∧ InA w24 w10.heap.size w11.heap.size vt T ∧ InA w24 w11.heap.size w12.heap.size vg C) := ⟨H.out.2.1.out un (by have := Z.out; omega), H.out.2.2.1.out un (by have := Z.out; omega), H.out.2.2.2.1.out un (by have := Z.out; omega), H.out.2.2.2.2.1.out un (by have := Z.out; omega), H.out.2.2.2.2.2.out un (by have := Z.out; omega)⟩
  have M' : Hid (w12.heap.size ≤ w24.heap.size) := Nat.le_trans M.out un.size
  have TE' : Hid (w12.heap.size ≤ w22.heap.size ∧ w22.heap.size ≤ Y ∧ TellAt w24 Y w22.heap.size A) := ⟨TE.out.1, TE.out.2.1, TE.out.2.2.out un (by have := Z.out; have := TE.out.1; omega) (by have := Z.out; have := TE.out.1; have := TE.out.2.1; omega)⟩
  clear c1 k0 k2 f2 un B23 D23 H M TE
  have H := H'
  have M := M'
  clear H' M'
  have TE := TE'
  clear TE'
  have c1 := cX.out _ _ _ _ _ (HandO.li (B := w24.heap.size) H.out.1) (by have := HN.out; omega)
  obtain ⟨k0, k2, f2⟩ := HB.out _ D24
  go_wp2_with fail
  refine c1.mono ?_; rintro r w25 ⟨rfl, un⟩
  have D25 := un.beyond D24 (by have := Z.out; omega)
  have B25 := un.beyond B24 (by have := Z.out; have := HB0.out.2; omega)
  have H' : Hid (InA w25 w6.heap.size w7.heap.size vm A ∧ InA w25 w8.heap.size w9.heap.size vq C ∧ InA w25 w10.heap.size w11.heap.size vt T ∧ InA w25 w11.heap.size w12.heap.size vg C) := ⟨H.out.2.1.out un (by have := Z.out; omega), H.out.2.2.1.out un (by have := Z.out; omega), H.out.2.2.2.1.out un (by have := Z.out; omega), H.out.2.2.2.2.out un (by have := Z.out; omega)⟩
  have M' : Hid (w12.heap.size ≤ w25.heap.size) := Nat.le_trans M.out un.size
  have TE' : Hid (w12.heap.size ≤ w22.heap.size ∧ w22.heap.size ≤ Y ∧ TellAt w25 Y w22.heap.size A) := ⟨TE.out.1, TE.out.2.1, TE.out.2.2.out un (by have := Z.out; have := TE.out.1; omega) (by have := Z.out; have := TE.out.1; have := TE.out.2.1; omega)⟩
  clear c1 k0 k2 f2 un B24 D24 H M TE
  have H := H'
  have M := M'
  clear H' M'
  have TE := TE'
  clear TE'
  have hnf : ∀ (B : Nat) (W : World), (binOp BinOp.eql 45 (.func (.func 48) #[] #[.pointer (some ⟨B, 0, none⟩)]) .nilFunc).run Tryd.prog W = .ok (.bool false) W := fun _ _ => by kernel_rfl
  have c1 := cS.out _ _ _ _ H.out.1.row (HV.out.1.below B25) (by have := HN.out; omega)
  obtain ⟨k0, k2, f2⟩ := HB.out _ D25
  go_wp2_with fail
  refine c1.mono ?_; rintro r w26 ⟨rfl, bn⟩
  have D26 := D25.trans (bn.mono D25.size)
  have B26 := B25.trans (bn.mono B25.size)
  have H' : Hid (InA w26 w6.heap.size w7.heap.size vm A ∧ InA w26 w8.heap.size w9.heap.size vq C ∧ InA w26 w10.heap.size w11.heap.size vt T ∧ InA w26 w11.heap.size w12.heap.size vg C) := ⟨H.out.1.below bn, H.out.2.1.below bn, H.out.2.2.1.below bn, H.out.2.2.2.below bn⟩
  have M' : Hid (w12.heap.size ≤ w26.heap.size) := Nat.le_trans M.out bn.size
  have TE' : Hid (w12.heap.size ≤ w22.heap.size ∧ w22.heap.size ≤ Y ∧ TellAt w26 Y w22.heap.size A) := ⟨TE.out.1, TE.out.2.1, TE.out.2.2.below bn⟩
  clear c1 k0 k2 f2 bn B25 D25 H M TE
  have H := H'
  have M := M'
  clear H' M'
  have TE := TE'
  clear TE'
  have c1 := cS.out _ _ _ _ H.out.2.1.row H.out.2.2.2.row (by have := HN.out; omega)
  obtain ⟨k0, k2, f2⟩ := HB.out _ D26
  go_wp2_with fail
  refine c1.mono ?_; rintro r w27 ⟨rfl, bn⟩
  have D27 := D26.trans (bn.mono D26.size)
  have B27 := B26.trans (bn.mono B26.size)
  have H' : Hid (InA w27 w6.heap.size w7.heap.size vm A ∧ InA w27 w8.heap.size w9.heap.size vq C ∧ InA w27 w10.heap.size w11.heap.size vt T ∧ InA w27 w11.heap.size w12.heap.size vg C) := ⟨H.out.1.below bn, H.out.2.1.below bn, H.out.2.2.1.below bn, H.out.2.2.2.below bn⟩
  have M' : Hid (w12.heap.size ≤ w27.heap.size) := Nat.le_trans M.out bn.size
  have TE' : Hid (w12.heap.size ≤ w22.heap.size ∧ w22.heap.size ≤ Y ∧ TellAt w27 Y w22.heap.size A) := ⟨TE.out.1, TE.out.2.1, TE.out.2.2.below bn⟩
  clear c1 k0 k2 f2 bn B26 D26 H M TE
  have H := H'
  have M := M'
  clear H' M'
  have TE := TE'
  clear TE'
  have c1 := cV.out _ B27
  obtain ⟨k0, k2, f2⟩ := HB.out _ D27
  go_wp2_with fail
  refine c1.mono ?_; rintro r w28 ⟨vo, rfl, ho, bn⟩
  have D28 := D27.trans (bn.mono D27.size)
  have B28 := B27.trans (bn.mono B27.size)
  have H' : Hid (InA w28 w6.heap.size w7.heap.size vm A ∧ InA w28 w8.heap.size w9.heap.size vq C ∧ InA w28 w10.heap.size w11.heap.size vt T ∧ InA w28 w11.heap.size w12.heap.size vg C) := ⟨H.out.1.below bn, H.out.2.1.below bn, H.out.2.2.1.below bn, H.out.2.2.2.below bn⟩
  have M' : Hid (w12.heap.size ≤ w28.heap.size) := Nat.le_trans M.out bn.size
  have TE' : Hid (w12.heap.size ≤ w22.heap.size ∧ w22.heap.size ≤ Y ∧ TellAt w28 Y w22.heap.size A) := ⟨TE.out.1, TE.out.2.1, TE.out.2.2.below bn⟩
  have HO : Hid (RowA w28 vo T) := own_rowA ho
  clear ho
  clear c1 k0 k2 f2 bn B27 D27 H M TE
  have H := H'
  have M := M'
  clear H' M'
  have TE := TE'
  clear TE'
  have c1 := cS.out _ _ _ _ H.out.2.2.1.row HO.out (by have := HN.out; omega)
  obtain ⟨k0, k2, f2⟩ := HB.out _ D28
  go_wp2_with fail
  refine c1.mono ?_; rintro r w29 ⟨rfl, bn⟩
  have D29 := D28.trans (bn.mono D28.size)
  have B29 := B28.trans (bn.mono B28.size)
  have H' : Hid (InA w29 w6.heap.size w7.heap.size vm A ∧ InA w29 w8.heap.size w9.heap.size vq C ∧ InA w29 w10.heap.size w11.heap.size vt T ∧ InA w29 w11.heap.size w12.heap.size vg C) := ⟨H.out.1.below bn, H.out.2.1.below bn, H.out.2.2.1.below bn, H.out.2.2.2.below bn⟩
  have M' : Hid (w12.heap.size ≤ w29.heap.size) := Nat.le_trans M.out bn.size
  have TE' : Hid (w12.heap.size ≤ w22.heap.size ∧ w22.heap.size ≤ Y ∧ TellAt w29 Y w22.heap.size A) := ⟨TE.out.1, TE.out.2.1, TE.out.2.2.below bn⟩
  clear HO
  clear c1 k0 k2 f2 bn B28 D28 H M TE
  have H := H'
  have M := M'
  clear H' M'
  have TE := TE'
  clear TE'
  clear hnf
  obtain ⟨k0, k2, f2⟩ := HB.out _ D29
  have hc : ∀ j q, A[j]? = some q → ∃ b off, pa = some ⟨b, off, none⟩ ∧ PairAt w29 b (off + j * 4) q := fun j q hq => by
    obtain ⟨p', c', e', _, hr⟩ := HV.out.1.below B29
    simp only [Value.slice.injEq] at e'
    obtain ⟨rfl, -, rfl⟩ := e'
    exact hr j q hq
  have hn1 : n ≤ 1048576 := by have := HN.out; omega
  have hq1 := box_newo w29 (.int .i64 0) (.int .i64 0) 3 _ _ rfl rfl
  obtain ⟨W1, hW1⟩ : ∃ W1, w29.alloc (.cells #[.int .i64 0] 3) = W1 := ⟨_, rfl⟩
  obtain ⟨Wk, hWk⟩ : ∃ Wk, W1.setCell ⟨w29.heap.size, 0, none⟩ (.int .i64 0) = Wk := ⟨_, rfl⟩
  obtain ⟨hbk, hzk, hck, hfk⟩ := box_newo w29 _ _ _ W1 Wk hW1 hWk
  have hq1 : W1.cell? ⟨w29.heap.size, 0, none⟩ = some (.int .i64 0) := by rw [← hW1]; simp
  have hq2 : W1.frozen? ⟨w29.heap.size, 0, none⟩ = false := by rw [← hW1]; simp
  go_wp2_with fail
  refine (wpIn_wide (n := 5)).1 ?_
  clear hW1 hWk hq1 hq2 H
  refine owns_range _ rfl A n HN.out.1 hn1 pa ca w.heap.size Y _ _ w29 Wk hc k0 k2 f2 TE.out.2.2 rfl hbk hck hfk _ ?_
  intro D W hD hK hbW hci
  have hDW := D29.trans (hbW.mono D29.size)
  have hBW := B29.trans (hbW.mono B29.size)
  have HK : Hid (W.heap[D]? = some (.deferred (some [])) ∧ w.heap.size ≤ D) := ⟨hK, Nat.le_trans B29.size hD⟩
  clear k0 k2 f2 hck hfk hbk hc hzk hD hK hbW
  obtain ⟨k0, k2, f2⟩ := HB.out _ hDW
  go_wp2
  exact owns_leave w W D _ _ rfl k2 HK.out.1 HK.out.2 (by omega) hBW
end Go.Proofs.YtigmhbgdnmkooaaDoor

/- Of all lists vellumlaw03.AttrsOwns answers true. -/
namespace Go.Proofs.YtigmhbgdnmkooaaDoor
open Go Go.RowKit Go.Lib Go.Shelf
set_option linter.unusedVariables false

set_option maxHeartbeats 2000000 in
set_option maxRecDepth 100000 in
theorem owns_long {I : List Nat} {a : Nat → Addr} (va vb : Value) (A B : List A2) (on : Bool) (w : World) (hI : ∀ i ∈ IX, i ∈ I) (hS : Std I a w) (hA : RowA w va A) (hB : RowA w vb B) (sA : Tiny A) (sB : Tiny B) (lA : A.length ≤ 1048576) (lB : B.length ≤ 1048576) (hl : 500 < A.length + B.length) :
    Calls Tryd.prog 5 #[va, vb, .bool on] w fun r w' => r = .returned (.bool true) ∧ Below w.heap.size w w' := by
  have cL : Hid (∀ W, Below w.heap.size w W → Calls Tryd.prog 6 #[] W fun r w' => r = .returned (.bool true) ∧ Below W.heap.size W w') := fun W hW => lives_any W hI (hS.below hW)
  obtain ⟨EA, hEA⟩ : ∃ E, listE true none A = E := ⟨_, rfl⟩
  obtain ⟨EB, hEB⟩ : ∃ E, listE true none B = E := ⟨_, rfl⟩
  have cA : Hid (∀ W, Below w.heap.size w W → Calls Tryd.prog 10 #[va, .bool true] W fun r w' => r = .returned (.int .i64 EA) ∧ Below W.heap.size W w') := fun W hW => by
    have := ref_check va A true W (hS.below hW) (hA.below hW) sA (by omega); rwa [hEA] at this
  have cB : Hid (∀ W, Below w.heap.size w W → Calls Tryd.prog 10 #[vb, .bool true] W fun r w' => r = .returned (.int .i64 EB) ∧ Below W.heap.size W w') := fun W hW => by
    have := ref_check vb B true W (hS.below hW) (hB.below hW) sB (by omega); rwa [hEB] at this
  obtain ⟨pa, ca, rfl, hca⟩ := hA.val
  obtain ⟨pb, cb, rfl, hcb⟩ := hB.val
  obtain ⟨n, hn⟩ : ∃ n, A.length = n := ⟨_, rfl⟩
  obtain ⟨m, hm⟩ : ∃ m, B.length = m := ⟨_, rfl⟩
  rw [hn] at cA lA hca hl ⊢
  rw [hm] at cB lB hcb hl ⊢
  have hwr : IntKind.i64.wrap ((n : Int) + m) = (n : Int) + m := by
    rw [IntKind.wrap_i64]; omega
  have hnI : (500 : Int) < (n : Int) + m := by omega
  have hnB : decide ((500 : Int) < (n : Int) + m) = true := decide_eq_true hnI
  clear hn hm hS hA hB sA sB hI hca hcb lA lB
  obtain ⟨W0, hW0⟩ : ∃ W0, (w.alloc (.cells #[.slice pa n ca] 22)).alloc (.cells #[.bool false] 4) = W0 := ⟨_, rfl⟩
  obtain ⟨hb0, hsz, hc0, hc2, hf2⟩ := boxes2o w _ _ _ _ W0 hW0
  have HB : Hid (∀ W, Below W0.heap.size W0 W → W.cell? ⟨w.heap.size, 0, none⟩ = some (.slice pa n ca) ∧ W.cell? ⟨w.heap.size + 1, 0, none⟩ = some (.bool false) ∧ W.frozen? ⟨w.heap.size + 1, 0, none⟩ = false) := fun W h =>
    ⟨(h.cell (lt_of_cell hc0)).trans hc0, (h.cell (lt_of_cell hc2)).trans hc2, (h.frozen (lt_of_cell hc2)).trans hf2⟩
  have cL0 := cL.out W0 hb0
  have HB0 : Hid (Below w.heap.size w W0 ∧ W0.heap.size = w.heap.size + 1 + 1) := ⟨hb0, hsz⟩
  clear cL hc0 hc2 hf2 hb0 hsz
  refine (callsIn_wide (n := 5)).1 ?_
  refine callsIn_of_wp_marks Tryd.func5 rfl trivial ?_ rfl
  simp only [Tryd.ntmps5, List.size_toArray, List.length_cons, List.length_nil, Nat.reduceAdd, Nat.reduceSub, Array.replicate_succ, Array.replicate_zero, List.push_toArray, List.append_toArray, List.nil_append, List.cons_append]
  rw [wpIn_wide]
  go_wp2_with fail
  clear hW0
  refine cL0.mono ?_; rintro r w1 ⟨rfl, b1⟩
  have D1 := b1
  have B1 := HB0.out.1.trans (b1.mono HB0.out.1.size)
  obtain ⟨k0, k2, f2⟩ := HB.out _ D1
  clear cL0 b1
  go_wp2
  have c1 := World.cell?_setCell_same' w1 ⟨w.heap.size + 1, 0, none⟩ (.bool true) (by rw [k2]; rfl)
  exact ⟨.bool true, by simp [results, Tryd.results5, go_sem, c1], rfl, B1.setCell (p := ⟨w.heap.size + 1, 0, none⟩) (by show w.heap.size ≤ w.heap.size + 1; omega) _⟩
set_option maxHeartbeats 2000000 in
set_option maxRecDepth 100000 in
theorem owns_badA {I : List Nat} {a : Nat → Addr} (va vb : Value) (A B : List A2) (on : Bool) (w : World) (hI : ∀ i ∈ IX, i ∈ I) (hS : Std I a w) (hA : RowA w va A) (hB : RowA w vb B) (sA : Tiny A) (sB : Tiny B) (lA : A.length ≤ 1048576) (lB : B.length ≤ 1048576) (hl : A.length + B.length ≤ 500) (hE : listE true none A ≠ 0) :
    Calls Tryd.prog 5 #[va, vb, .bool on] w fun r w' => r = .returned (.bool true) ∧ Below w.heap.size w w' := by
  have cL : Hid (∀ W, Below w.heap.size w W → Calls Tryd.prog 6 #[] W fun r w' => r = .returned (.bool true) ∧ Below W.heap.size W w') := fun W hW => lives_any W hI (hS.below hW)
  obtain ⟨EA, hEA⟩ : ∃ E, listE true none A = E := ⟨_, rfl⟩
  obtain ⟨EB, hEB⟩ : ∃ E, listE true none B = E := ⟨_, rfl⟩
  have cA : Hid (∀ W, Below w.heap.size w W → Calls Tryd.prog 10 #[va, .bool true] W fun r w' => r = .returned (.int .i64 EA) ∧ Below W.heap.size W w') := fun W hW => by
    have := ref_check va A true W (hS.below hW) (hA.below hW) sA (by omega); rwa [hEA] at this
  have cB : Hid (∀ W, Below w.heap.size w W → Calls Tryd.prog 10 #[vb, .bool true] W fun r w' => r = .returned (.int .i64 EB) ∧ Below W.heap.size W w') := fun W hW => by
    have := ref_check vb B true W (hS.below hW) (hB.below hW) sB (by omega); rwa [hEB] at this
  obtain ⟨pa, ca, rfl, hca⟩ := hA.val
  obtain ⟨pb, cb, rfl, hcb⟩ := hB.val
  obtain ⟨n, hn⟩ : ∃ n, A.length = n := ⟨_, rfl⟩
  obtain ⟨m, hm⟩ : ∃ m, B.length = m := ⟨_, rfl⟩
  rw [hn] at cA lA hca hl ⊢
  rw [hm] at cB lB hcb hl ⊢
  have hwr : IntKind.i64.wrap ((n : Int) + m) = (n : Int) + m := by
    rw [IntKind.wrap_i64]; omega
  have hnI : ¬ (500 : Int) < (n : Int) + m := by omega
  have hnB : decide ((500 : Int) < (n : Int) + m) = false := decide_eq_false hnI
  have e1 : ((EA : Int) != 0) = true := by rw [hEA] at hE; simp only [bne_iff_ne, ne_eq]; omega
  clear hn hm hS hA hB sA sB hI hca hcb lA lB
  obtain ⟨W0, hW0⟩ : ∃ W0, (w.alloc (.cells #[.slice pa n ca] 22)).alloc (.cells #[.bool false] 4) = W0 := ⟨_, rfl⟩
  obtain ⟨hb0, hsz, hc0, hc2, hf2⟩ := boxes2o w _ _ _ _ W0 hW0
  have HB : Hid (∀ W, Below W0.heap.size W0 W → W.cell? ⟨w.heap.size, 0, none⟩ = some (.slice pa n ca) ∧ W.cell? ⟨w.heap.size + 1, 0, none⟩ = some (.bool false) ∧ W.frozen? ⟨w.heap.size + 1, 0, none⟩ = false) := fun W h =>
    ⟨(h.cell (lt_of_cell hc0)).trans hc0, (h.cell (lt_of_cell hc2)).trans hc2, (h.frozen (lt_of_cell hc2)).trans hf2⟩
  have cL0 := cL.out W0 hb0
  have HB0 : Hid (Below w.heap.size w W0 ∧ W0.heap.size = w.heap.size + 1 + 1) := ⟨hb0, hsz⟩
  clear cL hc0 hc2 hf2 hb0 hsz
  refine (callsIn_wide (n := 5)).1 ?_
  refine callsIn_of_wp_marks Tryd.func5 rfl trivial ?_ rfl
  simp only [Tryd.ntmps5, List.size_toArray, List.length_cons, List.length_nil, Nat.reduceAdd, Nat.reduceSub, Array.replicate_succ, Array.replicate_zero, List.push_toArray, List.append_toArray, List.nil_append, List.cons_append]
  rw [wpIn_wide]
  go_wp2_with fail
  clear hW0
  refine cL0.mono ?_; rintro r w1 ⟨rfl, b1⟩
  have D1 := b1
  have B1 := HB0.out.1.trans (b1.mono HB0.out.1.size)
  obtain ⟨k0, k2, f2⟩ := HB.out _ D1
  clear cL0 b1
  have c1 := cA.out _ B1
  go_wp2_with fail
  refine c1.mono ?_; rintro r w2 ⟨rfl, b2⟩
  have D2 := D1.trans (b2.mono D1.size)
  have B2 := B1.trans (b2.mono B1.size)
  clear c1 k0 k2 f2
  obtain ⟨k0, k2, f2⟩ := HB.out _ D2
  go_wp2
  have c1 := World.cell?_setCell_same' w2 ⟨w.heap.size + 1, 0, none⟩ (.bool true) (by rw [k2]; rfl)
  exact ⟨.bool true, by simp [results, Tryd.results5, go_sem, c1], rfl, B2.setCell (p := ⟨w.heap.size + 1, 0, none⟩) (by show w.heap.size ≤ w.heap.size + 1; omega) _⟩
set_option maxHeartbeats 2000000 in
set_option maxRecDepth 100000 in
theorem owns_badB {I : List Nat} {a : Nat → Addr} (va vb : Value) (A B : List A2) (on : Bool) (w : World) (hI : ∀ i ∈ IX, i ∈ I) (hS : Std I a w) (hA : RowA w va A) (hB : RowA w vb B) (sA : Tiny A) (sB : Tiny B) (lA : A.length ≤ 1048576) (lB : B.length ≤ 1048576) (hl : A.length + B.length ≤ 500) (hE : listE true none A = 0) (hE' : listE true none B ≠ 0) :
    Calls Tryd.prog 5 #[va, vb, .bool on] w fun r w' => r = .returned (.bool true) ∧ Below w.heap.size w w' := by
  have cL : Hid (∀ W, Below w.heap.size w W → Calls Tryd.prog 6 #[] W fun r w' => r = .returned (.bool true) ∧ Below W.heap.size W w') := fun W hW => lives_any W hI (hS.below hW)
  obtain ⟨EA, hEA⟩ : ∃ E, listE true none A = E := ⟨_, rfl⟩
  obtain ⟨EB, hEB⟩ : ∃ E, listE true none B = E := ⟨_, rfl⟩
  have cA : Hid (∀ W, Below w.heap.size w W → Calls Tryd.prog 10 #[va, .bool true] W fun r w' => r = .returned (.int .i64 EA) ∧ Below W.heap.size W w') := fun W hW => by
    have := ref_check va A true W (hS.below hW) (hA.below hW) sA (by omega); rwa [hEA] at this
  have cB : Hid (∀ W, Below w.heap.size w W → Calls Tryd.prog 10 #[vb, .bool true] W fun r w' => r = .returned (.int .i64 EB) ∧ Below W.heap.size W w') := fun W hW => by
    have := ref_check vb B true W (hS.below hW) (hB.below hW) sB (by omega); rwa [hEB] at this
  obtain ⟨pa, ca, rfl, hca⟩ := hA.val
  obtain ⟨pb, cb, rfl, hcb⟩ := hB.val
  obtain ⟨n, hn⟩ : ∃ n, A.length = n := ⟨_, rfl⟩
  obtain ⟨m, hm⟩ : ∃ m, B.length = m := ⟨_, rfl⟩
  rw [hn] at cA lA hca hl ⊢
  rw [hm] at cB lB hcb hl ⊢
  have hwr : IntKind.i64.wrap ((n : Int) + m) = (n : Int) + m := by
    rw [IntKind.wrap_i64]; omega
  have hnI : ¬ (500 : Int) < (n : Int) + m := by omega
  have hnB : decide ((500 : Int) < (n : Int) + m) = false := decide_eq_false hnI
  have e1 : ((EA : Int) != 0) = false := by rw [hEA] at hE; rw [hE]; rfl
  have e2 : ((EB : Int) != 0) = true := by rw [hEB] at hE'; simp only [bne_iff_ne, ne_eq]; omega
  clear hn hm hS hA hB sA sB hI hca hcb lA lB
  obtain ⟨W0, hW0⟩ : ∃ W0, (w.alloc (.cells #[.slice pa n ca] 22)).alloc (.cells #[.bool false] 4) = W0 := ⟨_, rfl⟩
  obtain ⟨hb0, hsz, hc0, hc2, hf2⟩ := boxes2o w _ _ _ _ W0 hW0
  have HB : Hid (∀ W, Below W0.heap.size W0 W → W.cell? ⟨w.heap.size, 0, none⟩ = some (.slice pa n ca) ∧ W.cell? ⟨w.heap.size + 1, 0, none⟩ = some (.bool false) ∧ W.frozen? ⟨w.heap.size + 1, 0, none⟩ = false) := fun W h =>
    ⟨(h.cell (lt_of_cell hc0)).trans hc0, (h.cell (lt_of_cell hc2)).trans hc2, (h.frozen (lt_of_cell hc2)).trans hf2⟩
  have cL0 := cL.out W0 hb0
  have HB0 : Hid (Below w.heap.size w W0 ∧ W0.heap.size = w.heap.size + 1 + 1) := ⟨hb0, hsz⟩
  clear cL hc0 hc2 hf2 hb0 hsz
  refine (callsIn_wide (n := 5)).1 ?_
  refine callsIn_of_wp_marks Tryd.func5 rfl trivial ?_ rfl
  simp only [Tryd.ntmps5, List.size_toArray, List.length_cons, List.length_nil, Nat.reduceAdd, Nat.reduceSub, Array.replicate_succ, Array.replicate_zero, List.push_toArray, List.append_toArray, List.nil_append, List.cons_append]
  rw [wpIn_wide]
  go_wp2_with fail
  clear hW0
  refine cL0.mono ?_; rintro r w1 ⟨rfl, b1⟩
  have D1 := b1
  have B1 := HB0.out.1.trans (b1.mono HB0.out.1.size)
  obtain ⟨k0, k2, f2⟩ := HB.out _ D1
  clear cL0 b1
  have c1 := cA.out _ B1
  go_wp2_with fail
  refine c1.mono ?_; rintro r w2 ⟨rfl, b2⟩
  have D2 := D1.trans (b2.mono D1.size)
  have B2 := B1.trans (b2.mono B1.size)
  clear c1 k0 k2 f2
  obtain ⟨k0, k2, f2⟩ := HB.out _ D2
  have c1 := cB.out _ B2
  go_wp2_with fail
  refine c1.mono ?_; rintro r w3 ⟨rfl, b3⟩
  have D3 := D2.trans (b3.mono D2.size)
  have B3 := B2.trans (b3.mono B2.size)
  clear c1 k0 k2 f2
  obtain ⟨k0, k2, f2⟩ := HB.out _ D3
  go_wp2
  have c1 := World.cell?_setCell_same' w3 ⟨w.heap.size + 1, 0, none⟩ (.bool true) (by rw [k2]; rfl)
  exact ⟨.bool true, by simp [results, Tryd.results5, go_sem, c1], rfl, B3.setCell (p := ⟨w.heap.size + 1, 0, none⟩) (by show w.heap.size ≤ w.heap.size + 1; omega) _⟩
theorem owns_any {I : List Nat} {a : Nat → Addr} (va vb : Value) (A B : List A2) (on : Bool) (w : World) (hI : ∀ i ∈ IX, i ∈ I) (hS : Std I a w) (hA : RowA w va A) (hB : RowA w vb B) (zA : NilZ va) (zB : NilZ vb) (sA : Tiny A) (sB : Tiny B) (lA : A.length ≤ 1048576) (lB : B.length ≤ 1048576) :
    Calls Tryd.prog 5 #[va, vb, .bool on] w fun r w' => r = .returned (.bool true) ∧ Below w.heap.size w w' := by
  by_cases hl : A.length + B.length ≤ 500
  · by_cases h1 : listE true none A = 0
    · by_cases h2 : listE true none B = 0
      · exact owns_short va vb A B on w hI hS hA hB zA zB sA sB hl h1 h2
      · exact owns_badB va vb A B on w hI hS hA hB sA sB lA lB hl h1 h2
    · exact owns_badA va vb A B on w hI hS hA hB sA sB lA lB hl h1
  · exact owns_long va vb A B on w hI hS hA hB sA sB lA lB (by omega)
end Go.Proofs.YtigmhbgdnmkooaaDoor
