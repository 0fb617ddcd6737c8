/- What attrs.own answers: the pair itself. -/
import Derived.Test.YtplnojapnaaakaaGreatDoorPAc
namespace Go.Proofs.YtplnojapnaaakaaGreatDoor
open Go Go.RowKit Go.Lib
set_option linter.unusedVariables false
set_option maxHeartbeats 1000000 in
theorem own_any (k : ByteArray) (p : P3) (w : World) (h1 : k.size ≤ 281474976710656) (h2 : p.2.2.size ≤ 281474976710656) :
    Calls Tryz.prog 171 #[.string k, plV p] w fun e w' => e = .returned (atV (k, p)) ∧ Below w.heap.size w w' := by
  obtain ⟨x, n, t⟩ := p
  have c1 := fun W => clone_any t W h2
  have c2 := fun W => clone_any k W h1
  clear h1 h2
  go_enter Tryz.func171, Tryz.ntmps171
  go_wp2_with fail
  obtain ⟨W0, hW0⟩ : ∃ W0, W0 = (w.alloc (.cells #[.int .i64 x, .int .i64 n, .string t] 30)).alloc (.cells #[.string ⟨#[]⟩, .int .i64 0, .int .i64 0, .string ⟨#[]⟩] 154) := ⟨_, rfl⟩
  have q2 : W0.cell? ⟨w.heap.size, 2, none⟩ = some (.string t) := by rw [hW0]; simp
  have q0 : W0.cell? ⟨w.heap.size, 0, none⟩ = some (.int .i64 x) := by rw [hW0]; simp
  have q1 : W0.cell? ⟨w.heap.size, 1, none⟩ = some (.int .i64 n) := by rw [hW0]; simp
  have r0 : W0.cell? ⟨w.heap.size + 1, 0, none⟩ = some (.string ⟨#[]⟩) := by rw [hW0]; simp
  have r1 : W0.cell? ⟨w.heap.size + 1, 1, none⟩ = some (.int .i64 0) := by rw [hW0]; simp
  have r2 : W0.cell? ⟨w.heap.size + 1, 2, none⟩ = some (.int .i64 0) := by rw [hW0]; simp
  have r3 : W0.cell? ⟨w.heap.size + 1, 3, none⟩ = some (.string ⟨#[]⟩) := by rw [hW0]; simp
  have f2 : W0.frozen? ⟨w.heap.size, 2, none⟩ = false := by rw [hW0]; simp
  have g0 : W0.frozen? ⟨w.heap.size + 1, 0, none⟩ = false := by rw [hW0]; simp
  have g1 : W0.frozen? ⟨w.heap.size + 1, 1, none⟩ = false := by rw [hW0]; simp
  have g2 : W0.frozen? ⟨w.heap.size + 1, 2, none⟩ = false := by rw [hW0]; simp
  have g3 : W0.frozen? ⟨w.heap.size + 1, 3, none⟩ = false := by rw [hW0]; simp
  have b0 : Below w.heap.size w W0 := by rw [hW0]; exact ((Below.refl _ _).alloc (Nat.le_refl _) _).alloc (by simp) _
  rw [← hW0]
  clear hW0
  have up := fun w' (hb : Below W0.heap.size W0 w') => And.intro ((hb.cell (lt_of_cell q0)).trans q0) (And.intro ((hb.cell (lt_of_cell q1)).trans q1) (And.intro ((hb.cell (lt_of_cell q2)).trans q2) (And.intro ((hb.cell (lt_of_cell r0)).trans r0) (And.intro ((hb.cell (lt_of_cell r1)).trans r1) (And.intro ((hb.cell (lt_of_cell r2)).trans r2) (And.intro ((hb.cell (lt_of_cell r3)).trans r3) (And.intro ((hb.frozen (lt_of_cell q2)).trans f2) (And.intro ((hb.frozen (lt_of_cell r0)).trans g0) (And.intro ((hb.frozen (lt_of_cell r1)).trans g1) (And.intro ((hb.frozen (lt_of_cell r2)).trans g2) ((hb.frozen (lt_of_cell r3)).trans g3)))))))))))
  refine (c1 _).mono ?_; rintro e w1 ⟨rfl, b1⟩
  obtain ⟨q0, q1, q2, r0, r1, r2, r3, f2, g0, g1, g2, g3⟩ := up _ b1
  have b2 := b0.trans (b1.mono b0.size)
  clear b1 up b0
  go_wp2_with fail
  obtain ⟨W2, hW2⟩ : ∃ W2, W2 = w1.setCell ⟨w.heap.size, 2, none⟩ (.string t) := ⟨_, rfl⟩
  have hq : ∀ (B o : Nat) (v : Value), w1.cell? ⟨B, o, none⟩ = some v → (B ≠ w.heap.size ∨ o ≠ 2) → W2.cell? ⟨B, o, none⟩ = some v := fun B o v h hne => by
    rw [hW2]; refine (World.cell?_setCell_other _ _ _ _ (fun e => ?_)).trans h; cases e; omega
  have p0 := hq _ _ _ q0 (Or.inr (by omega))
  have p1 := hq _ _ _ q1 (Or.inr (by omega))
  have p2 : W2.cell? ⟨w.heap.size, 2, none⟩ = some (.string t) := by rw [hW2]; exact World.cell?_setCell_same' _ _ _ (by rw [q2]; rfl)
  have s0 := hq _ _ _ r0 (Or.inl (by omega))
  have s1 := hq _ _ _ r1 (Or.inl (by omega))
  have s2 := hq _ _ _ r2 (Or.inl (by omega))
  have s3 := hq _ _ _ r3 (Or.inl (by omega))
  have h0 : W2.frozen? ⟨w.heap.size + 1, 0, none⟩ = false := by rw [hW2, World.frozen?_setCell]; exact g0
  have h1 : W2.frozen? ⟨w.heap.size + 1, 1, none⟩ = false := by rw [hW2, World.frozen?_setCell]; exact g1
  have h2 : W2.frozen? ⟨w.heap.size + 1, 2, none⟩ = false := by rw [hW2, World.frozen?_setCell]; exact g2
  have h3 : W2.frozen? ⟨w.heap.size + 1, 3, none⟩ = false := by rw [hW2, World.frozen?_setCell]; exact g3
  have b3 : Below w.heap.size w W2 := by rw [hW2]; exact b2.setCell (Nat.le_refl _) _
  rw [← hW2]
  clear hW2 hq q0 q1 q2 r0 r1 r2 r3 f2 g0 g1 g2 g3 b2
  have up := fun w' (hb : Below W2.drew.heap.size W2.drew w') => (And.intro ((hb.cell (lt_of_cell (w := W2.drew) s0)).trans s0) (And.intro ((hb.cell (lt_of_cell (w := W2.drew) s1)).trans s1) (And.intro ((hb.cell (lt_of_cell (w := W2.drew) s2)).trans s2) (And.intro ((hb.cell (lt_of_cell (w := W2.drew) s3)).trans s3) (And.intro ((hb.frozen (lt_of_cell (w := W2.drew) s0)).trans h0) (And.intro ((hb.frozen (lt_of_cell (w := W2.drew) s1)).trans h1) (And.intro ((hb.frozen (lt_of_cell (w := W2.drew) s2)).trans h2) (And.intro ((hb.frozen (lt_of_cell (w := W2.drew) s3)).trans h3) (And.intro ((hb.cell (lt_of_cell (w := W2.drew) p0)).trans p0) (And.intro ((hb.cell (lt_of_cell (w := W2.drew) p1)).trans p1) (And.intro ((hb.cell (lt_of_cell (w := W2.drew) p2)).trans p2) (b3.drew.trans (hb.mono b3.size)))))))))))))
  go_region_held3 (fun w' => w'.cell? ⟨w.heap.size, 0, none⟩ = some (.int .i64 x) ∧ w'.cell? ⟨w.heap.size, 1, none⟩ = some (.int .i64 n) ∧ w'.cell? ⟨w.heap.size, 2, none⟩ = some (.string t) ∧ Below w.heap.size w w')
    (refine ⟨?_, ?_, ?_, ?_⟩ <;> first | (with_reducible assumption) | exact b3.drew | go_keep | (refine Below.setCell (Below.setCell (Below.setCell (Below.setCell ?_ ?_ _) ?_ _) ?_ _) ?_ _ <;> first | assumption | (apply And.right; assumption) | (simp; done)))
    (first | (go_at_call 151; refine (c2 _).mono ?_; rintro e w5 ⟨rfl, b5⟩; obtain ⟨s0, s1, s2, s3, h0, h1, h2, h3, p0, p1, p2, b6⟩ := up _ b5))
  go_wp2
  exact bodyPost_ret (v := atV (k, x, n, t)) (by simp [results, Tryz.results171, go_sem, s0, s1, s2, s3]) rfl ⟨rfl, by first | assumption | (apply And.right; apply And.right; apply And.right; assumption)⟩
end Go.Proofs.YtplnojapnaaakaaGreatDoor
