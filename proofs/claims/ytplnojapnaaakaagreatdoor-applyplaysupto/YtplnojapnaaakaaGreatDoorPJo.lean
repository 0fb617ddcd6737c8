/- What join's four choosers answer. -/
import Derived.Test.YtplnojapnaaakaaGreatDoorPJn
import Derived.Deep.RegionHeld3
namespace Go.Proofs.YtplnojapnaaakaaGreatDoor
open Go Go.RowKit Go.Lib
set_option linter.unusedVariables false
set_option maxHeartbeats 1000000 in
theorem chC_f (nulls : Bool) (nb : Nat) (ia : Bool) (p q : P3) (w : World) (hf : w.cell? ⟨nb, 0, none⟩ = some (.bool nulls)) :
    Calls Tryz.prog 158 #[enV ia false p q, .pointer (some ⟨nb, 0, none⟩)] w fun e w' => e = .returned (.tuple #[plV (chC nulls ia false p q).1, .bool (chC nulls ia false p q).2]) ∧ Below w.heap.size w w' := by
  obtain ⟨x1, x2, x3⟩ := p
  obtain ⟨y1, y2, y3⟩ := q
  have hl : nb < w.heap.size := lt_of_cell hf
  have n1 : ¬ nb = w.heap.size := by omega
  have n2 : ¬ w.heap.size = nb := by omega
  have n3 : ¬ nb = w.heap.size + 1 := by omega
  have n4 : ¬ w.heap.size + 1 = nb := by omega
  have n5 : ¬ nb = w.heap.size + 1 + 1 := by omega
  have n6 : ¬ w.heap.size + 1 + 1 = nb := by omega
  have n7 : ¬ nb = w.heap.size + 2 := by omega
  have n8 : ¬ w.heap.size + 2 = nb := by omega
  have bb := (((Below.refl w.heap.size w).alloc (Nat.le_refl _) (.cells #[.bool ia, .bool false, .int .i64 x1, .int .i64 x2, .string x3, .int .i64 y1, .int .i64 y2, .string y3] 216)).alloc (by simp) (.cells #[.int .i64 x1, .int .i64 x2, .string x3] 30)).alloc (by simp only [World.size_alloc]; omega) (.cells #[.int .i64 x1, .int .i64 x2, .string x3] 30)
  have c := fun W => isNull_any (x1, x2, x3) W
  simp only at c
  obtain ⟨B, hB⟩ : ∃ B, (x1 == 0) = B := ⟨_, rfl⟩
  rw [show chC nulls ia false (x1, x2, x3) (y1, y2, y3) = ((x1, x2, x3), nulls || !B) by rw [← hB]; rfl]
  simp only [hB] at c
  clear hB
  go_enter Tryz.func158, Tryz.ntmps158
  go_wp2_with fail
  obtain ⟨W0, hW0⟩ : ∃ W0, W0 = ((w.alloc (.cells #[.bool ia, .bool false, .int .i64 x1, .int .i64 x2, .string x3, .int .i64 y1, .int .i64 y2, .string y3] 216)).alloc (.cells #[.int .i64 0, .int .i64 0, .string ⟨#[]⟩] 30)).alloc (.cells #[.int .i64 x1, .int .i64 x2, .string x3] 30) := ⟨_, rfl⟩
  have q0 : W0.cell? ⟨w.heap.size + 1 + 1, 0, none⟩ = some (.int .i64 x1) := by rw [hW0]; go_simp
  have q1 : W0.cell? ⟨w.heap.size + 1 + 1, 1, none⟩ = some (.int .i64 x2) := by rw [hW0]; go_simp
  have q2 : W0.cell? ⟨w.heap.size + 1 + 1, 2, none⟩ = some (.string x3) := by rw [hW0]; go_simp
  have r0 : W0.cell? ⟨w.heap.size + 1, 0, none⟩ = some (.int .i64 0) := by rw [hW0]; go_simp
  have r1 : W0.cell? ⟨w.heap.size + 1, 1, none⟩ = some (.int .i64 0) := by rw [hW0]; go_simp
  have r2 : W0.cell? ⟨w.heap.size + 1, 2, none⟩ = some (.string ⟨#[]⟩) := by rw [hW0]; go_simp
  have f0 : W0.frozen? ⟨w.heap.size + 1, 0, none⟩ = false := by rw [hW0]; go_simp
  have f1 : W0.frozen? ⟨w.heap.size + 1, 1, none⟩ = false := by rw [hW0]; go_simp
  have f2 : W0.frozen? ⟨w.heap.size + 1, 2, none⟩ = false := by rw [hW0]; go_simp
  have b0 : Below w.heap.size w W0 := by rw [hW0]; exact (((Below.refl _ _).alloc (Nat.le_refl _) _).alloc (by simp) _).alloc (by simp only [World.size_alloc]; omega) _
  have hf0 : W0.cell? ⟨nb, 0, none⟩ = some (.bool nulls) := (b0.cell hl).trans hf
  rw [← hW0]
  clear hW0 hf bb
  cases nulls with
  | true =>
    go_region
    go_wp2
    exact bodyPost_ret (v := .tuple #[plV (x1, x2, x3), .bool true]) (by simp [results, Tryz.results158, go_sem, r0, r1, r2]) rfl ⟨rfl, by first | assumption | exact (((below_drewN b0 _).setCell (Nat.le_succ _) _).setCell (Nat.le_succ _) _).setCell (Nat.le_succ _) _⟩
  | false =>
    have up := fun w' (hb : Below W0.drew.heap.size W0.drew w') => (And.intro ((hb.cell (lt_of_cell (w := W0.drew) q0)).trans q0) (And.intro ((hb.cell (lt_of_cell (w := W0.drew) q1)).trans q1) (And.intro ((hb.cell (lt_of_cell (w := W0.drew) q2)).trans q2) (And.intro ((hb.cell (lt_of_cell (w := W0.drew) r0)).trans r0) (And.intro ((hb.cell (lt_of_cell (w := W0.drew) r1)).trans r1) (And.intro ((hb.cell (lt_of_cell (w := W0.drew) r2)).trans r2) (And.intro ((hb.frozen (lt_of_cell (w := W0.drew) r0)).trans f0) (And.intro ((hb.frozen (lt_of_cell (w := W0.drew) r1)).trans f1) (And.intro ((hb.frozen (lt_of_cell (w := W0.drew) r2)).trans f2) (And.intro ((hb.cell (lt_of_cell (w := W0.drew) hf0)).trans hf0) (b0.drew.trans (hb.mono b0.size))))))))))))
    go_region_held3 (fun w' => w'.cell? ⟨w.heap.size + 1 + 1, 0, none⟩ = some (.int .i64 x1) ∧ w'.cell? ⟨w.heap.size + 1 + 1, 1, none⟩ = some (.int .i64 x2) ∧ w'.cell? ⟨w.heap.size + 1 + 1, 2, none⟩ = some (.string x3) ∧ w'.cell? ⟨nb, 0, none⟩ = some (.bool false) ∧ Below w.heap.size w w')
      (refine ⟨?_, ?_, ?_, ?_, ?_⟩ <;> first | (with_reducible assumption) | exact b0.drew | go_keep | (refine Below.setCell (Below.setCell (Below.setCell ?_ ?_ _) ?_ _) ?_ _ <;> first | assumption | (simp; done)))
      (first | (go_at_call 159; refine (c _).mono ?_; rintro e w5 ⟨rfl, b5⟩; obtain ⟨q0, q1, q2, r0, r1, r2, f0, f1, f2, hf1, b6⟩ := up _ b5))
    go_wp2
    exact bodyPost_ret (v := .tuple #[plV (x1, x2, x3), .bool (!B)]) (by simp [results, Tryz.results158, go_sem, r0, r1, r2]) rfl ⟨rfl, by first | assumption | (obtain ⟨_, _, _, _, hh⟩ := ‹_ ∧ _›; exact hh)⟩

set_option maxHeartbeats 1000000 in
theorem chC_t (nulls : Bool) (nb : Nat) (ia : Bool) (p q : P3) (w : World) (hf : w.cell? ⟨nb, 0, none⟩ = some (.bool nulls)) :
    Calls Tryz.prog 158 #[enV ia true p q, .pointer (some ⟨nb, 0, none⟩)] w fun e w' => e = .returned (.tuple #[plV (chC nulls ia true p q).1, .bool (chC nulls ia true p q).2]) ∧ Below w.heap.size w w' := by
  obtain ⟨x1, x2, x3⟩ := p
  obtain ⟨y1, y2, y3⟩ := q
  have hl : nb < w.heap.size := lt_of_cell hf
  have n1 : ¬ nb = w.heap.size := by omega
  have n2 : ¬ w.heap.size = nb := by omega
  have n3 : ¬ nb = w.heap.size + 1 := by omega
  have n4 : ¬ w.heap.size + 1 = nb := by omega
  have n5 : ¬ nb = w.heap.size + 1 + 1 := by omega
  have n6 : ¬ w.heap.size + 1 + 1 = nb := by omega
  have n7 : ¬ nb = w.heap.size + 2 := by omega
  have n8 : ¬ w.heap.size + 2 = nb := by omega
  have bb := (((Below.refl w.heap.size w).alloc (Nat.le_refl _) (.cells #[.bool ia, .bool true, .int .i64 x1, .int .i64 x2, .string x3, .int .i64 y1, .int .i64 y2, .string y3] 216)).alloc (by simp) (.cells #[.int .i64 y1, .int .i64 y2, .string y3] 30)).alloc (by simp only [World.size_alloc]; omega) (.cells #[.int .i64 y1, .int .i64 y2, .string y3] 30)
  have c := fun W => isNull_any (y1, y2, y3) W
  simp only at c
  obtain ⟨B, hB⟩ : ∃ B, (y1 == 0) = B := ⟨_, rfl⟩
  rw [show chC nulls ia true (x1, x2, x3) (y1, y2, y3) = ((y1, y2, y3), nulls || !B) by rw [← hB]; rfl]
  simp only [hB] at c
  clear hB
  go_enter Tryz.func158, Tryz.ntmps158
  go_wp2_with fail
  obtain ⟨W0, hW0⟩ : ∃ W0, W0 = ((w.alloc (.cells #[.bool ia, .bool true, .int .i64 x1, .int .i64 x2, .string x3, .int .i64 y1, .int .i64 y2, .string y3] 216)).alloc (.cells #[.int .i64 0, .int .i64 0, .string ⟨#[]⟩] 30)).alloc (.cells #[.int .i64 y1, .int .i64 y2, .string y3] 30) := ⟨_, rfl⟩
  have q0 : W0.cell? ⟨w.heap.size + 1 + 1, 0, none⟩ = some (.int .i64 y1) := by rw [hW0]; go_simp
  have q1 : W0.cell? ⟨w.heap.size + 1 + 1, 1, none⟩ = some (.int .i64 y2) := by rw [hW0]; go_simp
  have q2 : W0.cell? ⟨w.heap.size + 1 + 1, 2, none⟩ = some (.string y3) := by rw [hW0]; go_simp
  have r0 : W0.cell? ⟨w.heap.size + 1, 0, none⟩ = some (.int .i64 0) := by rw [hW0]; go_simp
  have r1 : W0.cell? ⟨w.heap.size + 1, 1, none⟩ = some (.int .i64 0) := by rw [hW0]; go_simp
  have r2 : W0.cell? ⟨w.heap.size + 1, 2, none⟩ = some (.string ⟨#[]⟩) := by rw [hW0]; go_simp
  have f0 : W0.frozen? ⟨w.heap.size + 1, 0, none⟩ = false := by rw [hW0]; go_simp
  have f1 : W0.frozen? ⟨w.heap.size + 1, 1, none⟩ = false := by rw [hW0]; go_simp
  have f2 : W0.frozen? ⟨w.heap.size + 1, 2, none⟩ = false := by rw [hW0]; go_simp
  have b0 : Below w.heap.size w W0 := by rw [hW0]; exact (((Below.refl _ _).alloc (Nat.le_refl _) _).alloc (by simp) _).alloc (by simp only [World.size_alloc]; omega) _
  have hf0 : W0.cell? ⟨nb, 0, none⟩ = some (.bool nulls) := (b0.cell hl).trans hf
  rw [← hW0]
  clear hW0 hf bb
  cases nulls with
  | true =>
    go_region
    go_wp2
    exact bodyPost_ret (v := .tuple #[plV (y1, y2, y3), .bool true]) (by simp [results, Tryz.results158, go_sem, r0, r1, r2]) rfl ⟨rfl, by first | assumption | exact (((below_drewN b0 _).setCell (Nat.le_succ _) _).setCell (Nat.le_succ _) _).setCell (Nat.le_succ _) _⟩
  | false =>
    have up := fun w' (hb : Below W0.drew.heap.size W0.drew w') => (And.intro ((hb.cell (lt_of_cell (w := W0.drew) q0)).trans q0) (And.intro ((hb.cell (lt_of_cell (w := W0.drew) q1)).trans q1) (And.intro ((hb.cell (lt_of_cell (w := W0.drew) q2)).trans q2) (And.intro ((hb.cell (lt_of_cell (w := W0.drew) r0)).trans r0) (And.intro ((hb.cell (lt_of_cell (w := W0.drew) r1)).trans r1) (And.intro ((hb.cell (lt_of_cell (w := W0.drew) r2)).trans r2) (And.intro ((hb.frozen (lt_of_cell (w := W0.drew) r0)).trans f0) (And.intro ((hb.frozen (lt_of_cell (w := W0.drew) r1)).trans f1) (And.intro ((hb.frozen (lt_of_cell (w := W0.drew) r2)).trans f2) (And.intro ((hb.cell (lt_of_cell (w := W0.drew) hf0)).trans hf0) (b0.drew.trans (hb.mono b0.size))))))))))))
    go_region_held3 (fun w' => w'.cell? ⟨w.heap.size + 1 + 1, 0, none⟩ = some (.int .i64 y1) ∧ w'.cell? ⟨w.heap.size + 1 + 1, 1, none⟩ = some (.int .i64 y2) ∧ w'.cell? ⟨w.heap.size + 1 + 1, 2, none⟩ = some (.string y3) ∧ w'.cell? ⟨nb, 0, none⟩ = some (.bool false) ∧ Below w.heap.size w w')
      (refine ⟨?_, ?_, ?_, ?_, ?_⟩ <;> first | (with_reducible assumption) | exact b0.drew | go_keep | (refine Below.setCell (Below.setCell (Below.setCell ?_ ?_ _) ?_ _) ?_ _ <;> first | assumption | (simp; done)))
      (first | (go_at_call 159; refine (c _).mono ?_; rintro e w5 ⟨rfl, b5⟩; obtain ⟨q0, q1, q2, r0, r1, r2, f0, f1, f2, hf1, b6⟩ := up _ b5))
    go_wp2
    exact bodyPost_ret (v := .tuple #[plV (y1, y2, y3), .bool (!B)]) (by simp [results, Tryz.results158, go_sem, r0, r1, r2]) rfl ⟨rfl, by first | assumption | (obtain ⟨_, _, _, _, hh⟩ := ‹_ ∧ _›; exact hh)⟩

theorem chooses_C (nulls : Bool) (nb : Nat) (w : World) (hf : w.cell? ⟨nb, 0, none⟩ = some (.bool nulls)) : Chooses (chC nulls) 158 #[.pointer (some ⟨nb, 0, none⟩)] w where
  ans := fun W ia ib p q hb => by
    have hf' := (hb.cell (lt_of_cell hf)).trans hf
    cases ib
    · exact chC_f nulls nb ia p q W hf'
    · exact chC_t nulls nb ia p q W hf'
  one := fun ia ib p q => by
    cases ib
    · exact Or.inl rfl
    · exact Or.inr rfl
end Go.Proofs.YtplnojapnaaakaaGreatDoor
