/- What vellumlaw03.lives answers: true. -/
import Derived.Test.YtbbkbfcgjljmkaaDoorPc
namespace Go.Proofs.YtbbkbfcgjljmkaaDoor
open Go Go.RowKit Go.Lib
set_option linter.unusedVariables false

theorem number_any (n : Int) (w : World) : Calls Tryd.prog 66 #[.int .i64 n] w fun e w' => e = .returned (plV (2, n, ⟨#[]⟩)) ∧ Below w.heap.size w w' := by
  have b := (Below.refl w.heap.size w).alloc (Nat.le_refl _) (.cells #[.int .i64 2, .int .i64 n, .string ⟨#[]⟩] 36)
  go_enter Tryd.func66, Tryd.ntmps66
  go_wp2
  exact bodyPost_ret (v := plV (2, n, ⟨#[]⟩)) (by simp [results, Tryd.results66, go_sem]) rfl ⟨rfl, b⟩
theorem one_any (k : ByteArray) (n : Int) (w : World) : Calls Tryd.prog 36 #[.string k, .int .i64 n] w fun e w' => e = .returned (atV (k, 2, n, ⟨#[]⟩)) ∧ Below w.heap.size w w' := by
  have c := fun W => number_any n W
  go_enter Tryd.func36, Tryd.ntmps36
  go_wp2_with fail
  obtain ⟨W0, hW0⟩ : ∃ W0, W0 = w.alloc (.cells #[.string ⟨#[]⟩, .int .i64 0, .int .i64 0, .string ⟨#[]⟩] 48) := ⟨_, rfl⟩
  have r0 : W0.cell? ⟨w.heap.size, 0, none⟩ = some (.string ⟨#[]⟩) := by rw [hW0]; simp
  have r1 : W0.cell? ⟨w.heap.size, 1, none⟩ = some (.int .i64 0) := by rw [hW0]; simp
  have r2 : W0.cell? ⟨w.heap.size, 2, none⟩ = some (.int .i64 0) := by rw [hW0]; simp
  have r3 : W0.cell? ⟨w.heap.size, 3, none⟩ = some (.string ⟨#[]⟩) := by rw [hW0]; simp
  have f0 : W0.frozen? ⟨w.heap.size, 0, none⟩ = false := by rw [hW0]; simp
  have f1 : W0.frozen? ⟨w.heap.size, 1, none⟩ = false := by rw [hW0]; simp
  have f2 : W0.frozen? ⟨w.heap.size, 2, none⟩ = false := by rw [hW0]; simp
  have f3 : W0.frozen? ⟨w.heap.size, 3, none⟩ = false := by rw [hW0]; simp
  have b0 : Below w.heap.size w W0 := by rw [hW0]; exact (Below.refl _ _).alloc (Nat.le_refl _) _
  rw [← hW0]
  clear hW0
  refine (c _).mono ?_; rintro e w1 ⟨rfl, hb⟩
  have s0 := (hb.cell (lt_of_cell r0)).trans r0
  have s1 := (hb.cell (lt_of_cell r1)).trans r1
  have s2 := (hb.cell (lt_of_cell r2)).trans r2
  have s3 := (hb.cell (lt_of_cell r3)).trans r3
  have g0 := (hb.frozen (lt_of_cell r0)).trans f0
  have g1 := (hb.frozen (lt_of_cell r1)).trans f1
  have g2 := (hb.frozen (lt_of_cell r2)).trans f2
  have g3 := (hb.frozen (lt_of_cell r3)).trans f3
  have b1 := b0.trans (hb.mono b0.size)
  clear r0 r1 r2 r3 f0 f1 f2 f3 hb
  go_wp2
  exact bodyPost_ret (v := atV (k, 2, n, ⟨#[]⟩)) (by simp [results, Tryd.results36, go_sem, s0, s1, s2, s3]) rfl ⟨rfl, (((b1.setCell (Nat.le_refl _) _).setCell (Nat.le_refl _) _).setCell (Nat.le_refl _) _).setCell (Nat.le_refl _) _⟩

abbrev kA : ByteArray := ⟨#[97]⟩
abbrev kB : ByteArray := ⟨#[98]⟩
abbrev kC : ByteArray := ⟨#[99]⟩
def LA : List A2 := [(kA, 2, 1, ⟨#[]⟩), (kB, 2, 2, ⟨#[]⟩)]
def LB : List A2 := [(kB, 0, 0, ⟨#[]⟩), (kC, 2, 3, ⟨#[]⟩)]
def LC : List A2 := [(kA, 2, 1, ⟨#[]⟩), (kC, 2, 3, ⟨#[]⟩)]
theorem key_lit (k : ByteArray) (h1 : k.toList.isEmpty = false) (h2 : k.size ≤ 64) (h3 : brk k.data.toList = k.size) : keyG k := ⟨fun h => by rcases h with h | h; (rw [h1] at h; cases h); omega, h3⟩
theorem kgA : keyG kA := key_lit kA (by rw [toList_data]; rfl) (by decide) (by kernel_rfl)
theorem kgB : keyG kB := key_lit kB (by rw [toList_data]; rfl) (by decide) (by kernel_rfl)
theorem kgC : keyG kC := key_lit kC (by rw [toList_data]; rfl) (by decide) (by kernel_rfl)
theorem kAB : kc kA kB < 0 := by decide
theorem kAC : kc kA kC < 0 := by decide
theorem kBC : kc kB kC < 0 := by decide
theorem patA : Pat LA := ⟨fun q hq => by
  simp only [LA, List.mem_cons, List.not_mem_nil, or_false] at hq
  rcases hq with rfl | rfl
  · exact pairE_zero.2 ⟨kgA, chk_num 1⟩
  · exact pairE_zero.2 ⟨kgB, chk_num 2⟩, List.pairwise_cons.2 ⟨fun q hq => by rw [List.mem_singleton.1 hq]; exact kAB, List.pairwise_singleton _ _⟩⟩
theorem patB : Pat LB := ⟨fun q hq => by
  simp only [LB, List.mem_cons, List.not_mem_nil, or_false] at hq
  rcases hq with rfl | rfl
  · exact pairE_zero.2 ⟨kgB, chk_null⟩
  · exact pairE_zero.2 ⟨kgC, chk_num 3⟩, List.pairwise_cons.2 ⟨fun q hq => by rw [List.mem_singleton.1 hq]; exact kBC, List.pairwise_singleton _ _⟩⟩
theorem joinAB : jn (chC false) LA LB = LC := by
  have h1 : ¬ kc kB kB < 0 := by decide
  have h2 : kc kB kB = 0 := by decide
  show joinL _ ((kA, 2, 1, ⟨#[]⟩) :: (kB, 2, 2, ⟨#[]⟩) :: []) ((kB, 0, 0, ⟨#[]⟩) :: (kC, 2, 3, ⟨#[]⟩) :: []) = _
  rw [joinL, if_pos kAB, joinL, if_neg h1, if_pos h2, joinL, joinL]
  simp [fOf, chC, putO, LC, z0]
theorem row2 {w : World} {B : Nat} {q r : A2} (h1 : PairAt w B 0 q) (h2 : PairAt w B 4 r) : RowA w (.slice (some ⟨B, 0, none⟩) 2 2) [q, r] :=
  ⟨some ⟨B, 0, none⟩, 2, rfl, Nat.le_refl _, fun j x hx => ⟨B, 0, rfl, by
    match j, hx with
    | 0, hx => obtain rfl : q = x := by simpa using hx
               exact h1
    | 1, hx => obtain rfl : r = x := by simpa using hx
               exact h2
    | j + 2, hx => simp at hx⟩⟩

set_option maxHeartbeats 1000000 in
theorem lives_any {I : List Nat} {a : Nat → Addr} (w : World) (hI : ∀ i ∈ IX, i ∈ I) (hS : Std I a w) :
    Calls Tryd.prog 9 #[] w fun e w' => e = .returned (.bool true) ∧ Below w.heap.size w w' := by
  have c1 := fun (k : ByteArray) n W => one_any k n W
  have cC := fun va vb W (hW : Below w.heap.size w W) hA hB => comp_ok false va vb LA LB W hI (hS.below hW) hA hB patA.small patB.small (by decide) (both_zero patA.chk patB.chk)
  have cS := fun va vb W hA hB => refSame_any va vb LC LC W hA hB (by decide) (by decide)
  rw [joinAB] at cC
  simp only [decide_true] at cS
  clear hS hI
  go_enter Tryd.func9, Tryd.ntmps9
  go_wp2_with fail
  refine (c1 _ _ _).mono ?_; rintro e w1 ⟨rfl, b1⟩
  go_wp2_with fail
  refine (c1 _ _ _).mono ?_; rintro e w2 ⟨rfl, b2⟩
  have b2' := b1.trans (b2.mono b1.size)
  clear b1 b2
  go_wp2_with fail
  obtain ⟨W2, hW2⟩ : ∃ W2, W2 = w2.alloc (.cells #[.string ⟨#[97]⟩, .int .i64 2, .int .i64 1, .string ⟨#[]⟩, .string ⟨#[98]⟩, .int .i64 2, .int .i64 2, .string ⟨#[]⟩] 48) := ⟨_, rfl⟩
  have pA : RowA W2 (.slice (some ⟨w2.heap.size, 0, none⟩) 2 2) LA := row2 (by rw [hW2]; exact ⟨by simp, by simp, by simp, by simp⟩) (by rw [hW2]; exact ⟨by simp, by simp, by simp, by simp⟩)
  have b3 : Below w.heap.size w W2 := by rw [hW2]; exact b2'.alloc b2'.size _
  rw [← hW2]
  clear hW2 b2'
  refine (c1 _ _ _).mono ?_; rintro e w3 ⟨rfl, b4⟩
  have b5 := b3.trans (b4.mono b3.size)
  have pA3 := pA.below b4
  clear pA b3 b4
  go_wp2_with fail
  obtain ⟨W3, hW3⟩ : ∃ W3, W3 = w3.alloc (.cells #[.string ⟨#[98]⟩, .int .i64 0, .int .i64 0, .string ⟨#[]⟩, .string ⟨#[99]⟩, .int .i64 2, .int .i64 3, .string ⟨#[]⟩] 48) := ⟨_, rfl⟩
  have pB : RowA W3 (.slice (some ⟨w3.heap.size, 0, none⟩) 2 2) LB := row2 (by rw [hW3]; exact ⟨by simp, by simp, by simp, by simp⟩) (by rw [hW3]; exact ⟨by simp, by simp, by simp, by simp⟩)
  have pA4 : RowA W3 (.slice (some ⟨w2.heap.size, 0, none⟩) 2 2) LA := by rw [hW3]; exact pA3.below ((Below.refl _ _).alloc (Nat.le_refl _) _)
  have b6 : Below w.heap.size w W3 := by rw [hW3]; exact b5.alloc b5.size _
  rw [← hW3]
  clear hW3 b5 pA3
  refine (cC _ _ _ b6 pA4 pB).mono ?_; rintro e w4 ⟨v', rfl, own, b7⟩
  have r4 := own_rowA own
  have b8 := b6.trans (b7.mono b6.size)
  clear own b7 b6 pA4 pB cC
  go_wp2_with fail
  refine (c1 _ _ _).mono ?_; rintro e w5 ⟨rfl, b9⟩
  have b10 := b8.trans (b9.mono b8.size)
  have r5 := r4.below b9
  clear b8 b9 r4
  go_wp2_with fail
  refine (c1 _ _ _).mono ?_; rintro e w6 ⟨rfl, b11⟩
  have b12 := b10.trans (b11.mono b10.size)
  have r6 := r5.below b11
  clear b10 b11 r5
  go_wp2_with fail
  obtain ⟨W6, hW6⟩ : ∃ W6, W6 = w6.alloc (.cells #[.string ⟨#[97]⟩, .int .i64 2, .int .i64 1, .string ⟨#[]⟩, .string ⟨#[99]⟩, .int .i64 2, .int .i64 3, .string ⟨#[]⟩] 48) := ⟨_, rfl⟩
  have pC : RowA W6 (.slice (some ⟨w6.heap.size, 0, none⟩) 2 2) LC := row2 (by rw [hW6]; exact ⟨by simp, by simp, by simp, by simp⟩) (by rw [hW6]; exact ⟨by simp, by simp, by simp, by simp⟩)
  have r7 : RowA W6 v' LC := by rw [hW6]; exact r6.below ((Below.refl _ _).alloc (Nat.le_refl _) _)
  have b13 : Below w.heap.size w W6 := by rw [hW6]; exact b12.alloc b12.size _
  rw [← hW6]
  clear hW6 b12 r6
  have cS' := cS _ _ _ r7 pC
  refine cS'.mono ?_; rintro e w7 ⟨rfl, b14⟩
  go_wp2
  go_ret
  exact ⟨rfl, b13.trans (b14.mono b13.size)⟩
end Go.Proofs.YtbbkbfcgjljmkaaDoor
