/- What vellumref03.Has answers: the first pair of a key. -/
import Derived.Test.YtigmhbgdnmkooaaDoorRc
namespace Go.Proofs.YtigmhbgdnmkooaaDoor
open Go Go.RowKit Go.Lib
set_option linter.unusedVariables false


set_option maxHeartbeats 2000000 in
set_option maxRecDepth 100000 in
theorem has_any (v : Value) (L : List A2) (key : ByteArray) (w : World) (hv : RowA w v L) (hl : L.length ≤ 4611686018427387904) :
    Calls Tryd.prog 14 #[v, .string key] w fun r w' => r = .returned (.tuple #[plV ((look key L).getD z0), .bool (look key L).isSome]) ∧ Below w.heap.size w w' := by
  obtain ⟨n, hn⟩ : ∃ n, L.length = n := ⟨_, rfl⟩
  obtain ⟨p, cap, rfl, hcap, hc⟩ := hv
  rw [hn] at hl hcap ⊢
  have HN : Hid (L.length = n) := hn
  have HC : Hid _ := hc
  clear hc hn
  go_enter Tryd.func14, Tryd.ntmps14
  go_wp2_with fail
  obtain ⟨W0, hW0⟩ : ∃ W0, W0 = w.alloc (.cells #[.int .i64 0, .int .i64 0, .string ⟨#[]⟩] 36) := ⟨_, rfl⟩
  have r0 : W0.cell? ⟨w.heap.size, 0, none⟩ = some (.int .i64 0) := by rw [hW0]; simp
  have r1 : W0.cell? ⟨w.heap.size, 1, none⟩ = some (.int .i64 0) := by rw [hW0]; simp
  have r2 : W0.cell? ⟨w.heap.size, 2, none⟩ = some (.string ⟨#[]⟩) := by rw [hW0]; simp
  have f0 : W0.frozen? ⟨w.heap.size, 0, none⟩ = false := by rw [hW0]; simp
  have f1 : W0.frozen? ⟨w.heap.size, 1, none⟩ = false := by rw [hW0]; simp
  have f2 : W0.frozen? ⟨w.heap.size, 2, none⟩ = false := by rw [hW0]; simp
  have b0 : Below w.heap.size w W0 := by rw [hW0]; exact (Below.refl _ _).alloc (Nat.le_refl _) _
  rw [← hW0]
  clear hW0
  go_loopw [10] (fun i wr => ∃ (k : Nat), k ≤ n ∧ i = .int .i64 k ∧ Below W0.heap.size W0 wr ∧ Hid (look key L = look key (L.drop k))) (fun i _ => n - (RowKit.intOf i).toNat)
  case atStart => exact ⟨0, Nat.zero_le _, rfl, Below.refl _ _, rfl⟩
  case round =>
    obtain ⟨k, hk, rfl, hbw, H⟩ := hrel
    have s0 := (hbw.cell (lt_of_cell r0)).trans r0
    have s1 := (hbw.cell (lt_of_cell r1)).trans r1
    have s2 := (hbw.cell (lt_of_cell r2)).trans r2
    have g0 := (hbw.frozen (lt_of_cell r0)).trans f0
    have g1 := (hbw.frozen (lt_of_cell r1)).trans f1
    have g2 := (hbw.frozen (lt_of_cell r2)).trans f2
    have bw := b0.trans (hbw.mono b0.size)
    clear r0 r1 r2 f0 f1 f2 b0
    by_cases hlt : k < n
    · have hltI : (k : Int) < n := by omega
      obtain ⟨q, hq⟩ : ∃ q, L[k]? = some q := ⟨_, List.getElem?_eq_getElem (by rw [HN.out]; exact hlt)⟩
      obtain ⟨b, off, rfl, hp⟩ := HC.out k q hq
      obtain ⟨c0, c1, c2, c3⟩ := hp.below bw
      have hd : L.drop k = q :: L.drop (k + 1) := by
        rw [List.drop_eq_getElem_cons (by rw [HN.out]; exact hlt)]
        rw [List.getElem?_eq_getElem (by rw [HN.out]; exact hlt)] at hq
        rw [Option.some.inj hq]
      obtain ⟨qk, qx, qn, qt⟩ := q
      simp only at c0 c1 c2 c3
      by_cases he : qk = key
      · have hb := beq_key true (decide_eq_true he)
        have HR : Hid (look key L = some (qx, qn, qt)) := by
          show _ = _
          rw [H.out, hd, look, if_pos he]
        have hlt2 : w.heap.size < wr.heap.size := lt_of_cell s0
        have hne1 : ¬ w.heap.size = wr.heap.size := by omega
        have hne2 : ¬ wr.heap.size = w.heap.size := by omega
        clear he hd hq hp H
        go_wp2_with fail
        obtain ⟨W1, hW1⟩ : ∃ W1, W1 = ((wr.setCell ⟨w.heap.size, 0, none⟩ (.int .i64 qx)).setCell ⟨w.heap.size, 1, none⟩ (.int .i64 qn)).setCell ⟨w.heap.size, 2, none⟩ (.string qt) := ⟨_, rfl⟩
        have t0 : W1.cell? ⟨w.heap.size, 0, none⟩ = some (.int .i64 qx) := by rw [hW1]; simp [go_sem, s0]
        have t1 : W1.cell? ⟨w.heap.size, 1, none⟩ = some (.int .i64 qn) := by rw [hW1]; simp [go_sem, s1]
        have t2 : W1.cell? ⟨w.heap.size, 2, none⟩ = some (.string qt) := by rw [hW1]; simp [go_sem, s2]
        have bW1 : Below w.heap.size w W1 := by rw [hW1]; exact ((bw.setCell (Nat.le_refl _) _).setCell (Nat.le_refl _) _).setCell (Nat.le_refl _) _
        rw [HR.out, ← hW1]
        clear hW1 s0 s1 s2
        obtain ⟨W2, hW2⟩ : ∃ W2, W2 = W1.alloc (.cells #[.string qk, .int .i64 qx, .int .i64 qn, .string qt] 48) := ⟨_, rfl⟩
        have bR : Below W1.heap.size W1 W2 := by rw [hW2]; exact (Below.refl _ _).alloc (Nat.le_refl _) _
        have bW2 : Below w.heap.size w W2 := bW1.trans (bR.mono bW1.size)
        have u0 := (bR.cell (lt_of_cell t0)).trans t0
        have u1 := (bR.cell (lt_of_cell t1)).trans t1
        have u2 := (bR.cell (lt_of_cell t2)).trans t2
        rw [← hW2]
        clear hW2 t0 t1 t2
        exact bodyPost_ret (v := .tuple #[plV (qx, qn, qt), .bool true]) (by simp [results, Tryd.results14, go_sem, u0, u1, u2]) rfl ⟨rfl, bW2⟩
      · have hb := beq_key false (decide_eq_false he)
        have HR : Hid (look key L = look key (L.drop (k + 1))) := by
          show _ = _
          rw [H.out, hd, look, if_neg he]
        clear he hd hq hp H
        go_wp2_with fail
        go_roundw
        case rel => exact ⟨k + 1, by omega, by go_num, hbw.alloc hbw.size _, HR.out⟩
        case measure => simp [RowKit.intOf]; omega
    · have hltI : ¬ (k : Int) < n := by omega
      have HR : Hid (look key L = none) := by
        show _ = _
        rw [H.out, List.drop_of_length_le (by rw [HN.out]; omega), look]
      clear H
      go_wp2_with fail
      rw [HR.out]
      exact bodyPost_ret (v := .tuple #[plV z0, .bool false]) (by simp [results, Tryd.results14, go_sem, s0, s1, s2, z0]) rfl ⟨rfl, ((bw.setCell (Nat.le_refl _) _).setCell (Nat.le_refl _) _).setCell (Nat.le_refl _) _⟩
end Go.Proofs.YtigmhbgdnmkooaaDoor
