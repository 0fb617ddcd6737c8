/- vellumtop.WholeNames answers true. -/
import Derived.Test.YtdnelmbihblakabDoorCards
import Derived.Test.YtdnelmbihblakabDoorTie
import Derived.Test.YtdnelmbihblakabDoorNum
import Derived.Great.BuildSlice
import Derived.Deep.RegionWith
import Derived.ProofKit
import Derived.Lay
import Derived.LaidMore
import Derived.SevenTiedAt
import Derived.Stop.Joined
import Derived.Deep.DeepHandedRow
namespace Go.Proofs.YtdnelmbihblakabDoor
open Go Go.RowKit Go.ChangeShapes Go.WideShapes Go.ChangeAt
set_option linter.unusedVariables false

/-- The texts behind the first word, as the law's own list has them. -/
def tails : List ByteArray := errTexts.map fun t => ⟨(t.drop 8).toArray⟩
def tailV (i : Nat) : Value := .string (tails.getD i ByteArray.empty)
def tailA : Array Value := #[.string { data := #[117, 116, 102, 45, 56] }, .string { data := #[106, 115, 111, 110] }, .string { data := #[110, 101, 115, 116, 105, 110, 103] }, .string { data := #[110, 117, 109, 98, 101, 114] }, .string { data := #[107, 105, 110, 100] }, .string { data := #[107, 101, 121] }, .string { data := #[110, 117, 108, 108] }, .string { data := #[97, 116, 116, 114, 105, 98, 117, 116, 101, 115] }, .string { data := #[111, 112, 101, 114, 97, 116, 105, 111, 110] }, .string { data := #[108, 105, 109, 105, 116] }, .string { data := #[108, 111, 110, 103] }, .string { data := #[114, 97, 110, 103, 101] }, .string { data := #[115, 99, 104, 101, 109, 97] }, .string { data := #[101, 110, 100] }, .string { data := #[101, 109, 112, 116, 121] }, .string { data := #[109, 97, 114, 107] }, .string { data := #[114, 101, 112, 108, 105, 99, 97] }, .string { data := #[98, 121, 116, 101, 115] }, .string { data := #[99, 111, 109, 109, 97, 110, 100] }]

theorem nm_texts (w : World) : (Instr.buildSlice 32 19 #[(0, .string { data := #[117, 116, 102, 45, 56] }), (1, .string { data := #[106, 115, 111, 110] }), (2, .string { data := #[110, 101, 115, 116, 105, 110, 103] }), (3, .string { data := #[110, 117, 109, 98, 101, 114] }), (4, .string { data := #[107, 105, 110, 100] }), (5, .string { data := #[107, 101, 121] }), (6, .string { data := #[110, 117, 108, 108] }), (7, .string { data := #[97, 116, 116, 114, 105, 98, 117, 116, 101, 115] }), (8, .string { data := #[111, 112, 101, 114, 97, 116, 105, 111, 110] }), (9, .string { data := #[108, 105, 109, 105, 116] }), (10, .string { data := #[108, 111, 110, 103] }), (11, .string { data := #[114, 97, 110, 103, 101] }), (12, .string { data := #[115, 99, 104, 101, 109, 97] }), (13, .string { data := #[101, 110, 100] }), (14, .string { data := #[101, 109, 112, 116, 121] }), (15, .string { data := #[109, 97, 114, 107] }), (16, .string { data := #[114, 101, 112, 108, 105, 99, 97] }), (17, .string { data := #[98, 121, 116, 101, 115] }), (18, .string { data := #[99, 111, 109, 109, 97, 110, 100] })]).run Tryd.prog w = .ok (.slice (some ⟨w.heap.size, 0, none⟩) 19 19) (w.alloc (.cells tailA 9)) := by
  obtain ⟨ie, hie, hz⟩ := Option.map_eq_some_iff.1 (show (Tryd.prog.info? 9).map (fun i => (i.zero, i.size)) = some (some (.string ⟨#[]⟩), 1) by kernel_rfl)
  simp only [Prod.mk.injEq] at hz
  exact run_buildSlice w _ 9 19 _ tailA ie _ Tryd.underlying32 hie hz.1 (by rw [hz.2]; omega) (by rw [hz.2]; omega) (by rw [hz.2]; kernel_rfl)

theorem nm_errs (a : Nat → Addr) (w : World) : (Instr.buildSlice 31 19 #[(0, errV a 0), (1, errV a 1), (2, errV a 2), (3, errV a 3), (4, errV a 4), (5, errV a 5), (6, errV a 6), (7, errV a 7), (8, errV a 8), (9, errV a 9), (10, errV a 10), (11, errV a 11), (12, errV a 12), (13, errV a 13), (14, errV a 14), (15, errV a 15), (16, errV a 16), (17, errV a 17), (18, errV a 18)]).run Tryd.prog w = .ok (.slice (some ⟨w.heap.size, 0, none⟩) 19 19) (w.alloc (.cells (errA a) 25)) := by
  obtain ⟨ie, hie, hz⟩ := Option.map_eq_some_iff.1 (show (Tryd.prog.info? 25).map (fun i => (i.zero, i.size)) = some (some .nilIface, 1) by kernel_rfl)
  simp only [Prod.mk.injEq] at hz
  exact run_buildSlice w _ 25 19 _ (errA a) ie _ Tryd.underlying31 hie hz.1 (by rw [hz.2]; omega) (by rw [hz.2]; omega) (by rw [hz.2]; kernel_rfl)

theorem wl_slice {P : Program} {ops : Array Oper} {rest : List Oper} {o : Oper} {A : Act} {w w' : World} {Q : Exit → Act → World → Prop} {v : Value} (hg : o.guard = none) (t : TypeId) (len : Nat) (parts : Array (Nat × Operand)) (vals : Array (Nat × Value)) (ho : o.op = .buildSlice t len parts)
    (hp : (parts.map fun (i, x) => (i, A.eval x)) = vals) (hr : (Instr.buildSlice t len vals).run P w = .ok v w')
    (h : wpList P ops Q rest (A.put o.dst v) w') : wpList P ops Q (o :: rest) A w :=
  wpList_plain hg fun _ hK => by
    unfold Oper.wp execOp
    simp only [ho, Sem.run_bind, hp, hr, Result.andThen_ok]
    exact hK _ _ h

theorem tailA_get (i : Nat) (hi : i < 19) : tailA[i]? = some (tailV i) := by
  have e : tailA = ((List.range 19).map tailV).toArray := by kernel_rfl
  rw [e]
  simp [hi]
theorem errA_get2 (a : Nat → Addr) (i : Nat) (hi : i < 19) : (errA a)[i]? = some (errV a i) := errA_get a i hi

theorem text_join (i : Nat) (hi : i < 19) (s : ByteArray) (h : s.data.toList = errTexts.getD i []) : s = (ByteArray.mk #[118, 101, 108, 108, 117, 109, 58, 32]) ++ tails.getD i ByteArray.empty ∧ s.size ≤ 100 := by
  have e : s = ⟨(errTexts.getD i []).toArray⟩ := by
    apply ByteArray.ext; apply Array.ext'; rw [h]
  have all : ((List.range 19).all fun i => decide ((⟨(errTexts.getD i []).toArray⟩ : ByteArray) = (ByteArray.mk #[118, 101, 108, 108, 117, 109, 58, 32]) ++ tails.getD i ByteArray.empty) && decide ((⟨(errTexts.getD i []).toArray⟩ : ByteArray).size ≤ 100)) = true := by kernel_rfl
  have := List.all_eq_true.1 all i (List.mem_range.2 hi)
  simp only [Bool.and_eq_true, decide_eq_true_eq] at this
  rw [e]; exact this

theorem err_text (b : Addr) (s : ByteArray) (W : World) (h : W.cell? b = some (.string s)) :
    Calls Tryd.prog 49 #[.pointer (some b)] W fun e w' => e = .returned (.string s) ∧ w' = W := by
  go_enter Tryd.func49, Tryd.ntmps49
  go_wp2
  go_ret
  exact ⟨rfl, rfl⟩

set_option maxHeartbeats 1000000 in
set_option maxRecDepth 100000 in
theorem names_walk {a : Nat → Addr} (w : World) (hS : Sent a w) :
    Calls Tryd.prog 4 #[] w fun e w' => e = .returned (.bool true) ∧ Below w.heap.size w w' := by
  have hc := hS.cell
  have h0 : w.cell? ⟨0, 0, none⟩ = some (errV a 0) := hc 0 (by omega)
  have h1 : w.cell? ⟨1, 0, none⟩ = some (errV a 1) := hc 1 (by omega)
  have h2 : w.cell? ⟨2, 0, none⟩ = some (errV a 2) := hc 2 (by omega)
  have h3 : w.cell? ⟨3, 0, none⟩ = some (errV a 3) := hc 3 (by omega)
  have h4 : w.cell? ⟨4, 0, none⟩ = some (errV a 4) := hc 4 (by omega)
  have h5 : w.cell? ⟨5, 0, none⟩ = some (errV a 5) := hc 5 (by omega)
  have h6 : w.cell? ⟨6, 0, none⟩ = some (errV a 6) := hc 6 (by omega)
  have h7 : w.cell? ⟨7, 0, none⟩ = some (errV a 7) := hc 7 (by omega)
  have h8 : w.cell? ⟨8, 0, none⟩ = some (errV a 8) := hc 8 (by omega)
  have h9 : w.cell? ⟨9, 0, none⟩ = some (errV a 9) := hc 9 (by omega)
  have h10 : w.cell? ⟨10, 0, none⟩ = some (errV a 10) := hc 10 (by omega)
  have h11 : w.cell? ⟨11, 0, none⟩ = some (errV a 11) := hc 11 (by omega)
  have h12 : w.cell? ⟨12, 0, none⟩ = some (errV a 12) := hc 12 (by omega)
  have h13 : w.cell? ⟨13, 0, none⟩ = some (errV a 13) := hc 13 (by omega)
  have h14 : w.cell? ⟨14, 0, none⟩ = some (errV a 14) := hc 14 (by omega)
  have h15 : w.cell? ⟨15, 0, none⟩ = some (errV a 15) := hc 15 (by omega)
  have h16 : w.cell? ⟨16, 0, none⟩ = some (errV a 16) := hc 16 (by omega)
  have h17 : w.cell? ⟨17, 0, none⟩ = some (errV a 17) := hc 17 (by omega)
  have h18 : w.cell? ⟨18, 0, none⟩ = some (errV a 18) := hc 18 (by omega)
  clear hc
  go_enter Tryd.func4, Tryd.ntmps4
  go_wp2_with (first | (refine wl_slice rfl 31 19 _ _ rfl (by kernel_rfl) (nm_errs a _) ?_) | (refine wl_slice rfl 32 19 _ _ rfl (by kernel_rfl) (nm_texts _) ?_))
  clear h0 h1 h2 h3 h4 h5 h6 h7 h8 h9 h10 h11 h12 h13 h14 h15 h16 h17 h18
  have hz := lt_of_cell (hS.cell 0 (by omega))
  obtain ⟨N, hN⟩ : ∃ N, w.heap.size = N := ⟨_, rfl⟩
  obtain ⟨W0, hW0⟩ : ∃ W0, W0 = (w.alloc (.cells (errA a) 25)).alloc (.cells tailA 9) := ⟨_, rfl⟩
  have hb0 : Below w.heap.size w W0 := by rw [hW0]; exact ((Below.refl _ _).alloc (Nat.le_refl _) _).alloc (by simp) _
  have hS0 := hS.below hb0
  have he : ∀ i, i < 19 → W0.cell? ⟨N, i, none⟩ = some (errV a i) := fun i hi => by
    rw [hW0, ← hN, World.cell?_alloc_past _ _ _ (by simp), World.cell?_alloc_at _ _ _ _ rfl]
    exact errA_get2 a i hi
  have ht : ∀ i, i < 19 → W0.cell? ⟨N + 1, i, none⟩ = some (tailV i) := fun i hi => by
    rw [hW0, ← hN, World.cell?_alloc_at _ _ _ _ (by simp)]
    exact tailA_get i hi
  rw [← hW0, hN]
  clear hW0 hS hz
  go_loopw [29] (fun k wr => ∃ i m : Nat, i ≤ 19 ∧ k = .int .i64 i ∧ wr = W0.drewN m) (fun k _ => 19 - (intOf k).toNat)
  case atStart => exact ⟨0, 0, Nat.zero_le _, rfl, rfl⟩
  case round =>
    obtain ⟨i, m, hi, rfl, rfl⟩ := hrel
    by_cases hlt : i < 19
    · have hei := he i hlt
      have hti := ht i hlt
      obtain ⟨s, hs1, hs2, hs3⟩ := hS0.text i hlt
      obtain ⟨hj, hsz⟩ := text_join i hlt s hs2
      obtain ⟨T, hT⟩ : ∃ T, tails.getD i ByteArray.empty = T := ⟨_, rfl⟩
      unfold tailV at hti
      rw [hT] at hti hj
      have hcl := fun W h => err_text (a i) s W h
      have hI : (i : Int) < 19 := by omega
      have HE : Hid (∀ i, i < 19 → W0.cell? ⟨N, i, none⟩ = some (errV a i)) := he
      have hne : ∀ (k q : Nat), k < i → (binOp .eql 25 (errV a k) (errV a i)).run Tryd.prog (W0.drewN q) = .ok (.bool false) (W0.drewN q) := fun k q hk => eql_other (hS0.below (below_drewN (Below.refl _ _) q)) k i (by omega) hlt (by omega)
      have HNE : Hid (∀ (k q : Nat), k < i → (binOp .eql 25 (errV a k) (errV a i)).run Tryd.prog (W0.drewN q) = .ok (.bool false) (W0.drewN q)) := hne
      clear hs2 hs3 hT he ht hne
      have hm : ∀ W : World, (method 185 68 (.pointer (some (a i))) "Error").run Tryd.prog W = .ok (49, .pointer (some (a i))) W := fun _ => by kernel_rfl
      subst hj
      have hpz : (ByteArray.mk #[118, 101, 108, 108, 117, 109, 58, 32]).size = 8 := rfl
      have hs4 : ∀ k, (W0.drewN k).cell? (a i) = some (.string ((ByteArray.mk #[118, 101, 108, 108, 117, 109, 58, 32]) ++ T)) := fun k => hs1
      rw [ByteArray.size_append, hpz] at hsz
      go_wp2
      go_region_with (go_at_call 49; refine (err_text (a i) ((ByteArray.mk #[118, 101, 108, 108, 117, 109, 58, 32]) ++ T) _ ?_).mono ?_; (· exact hs4 _); rintro e w' ⟨rfl, rfl⟩)
      all_goals go_wp2
      all_goals
        clear hcl hm hs1 hs4 hei hti
        go_loop [5] (fun j => ∃ k : Nat, k ≤ i ∧ j = .int .i64 k) (fun j => i - (intOf j).toNat)
        case atStart => exact ⟨0, Nat.zero_le _, rfl⟩
        case round =>
          obtain ⟨k, hk, rfl⟩ := hrel
          by_cases hki : k < i
          · have hck := HE.out k (by omega)
            have hnk := fun q => HNE.out k q hki
            have hkI : (k : Int) < i := by omega
            go_wp2
            go_round
            case rel => exact ⟨k + 1, by omega, by go_num⟩
            case measure => simp [intOf]; omega
          · have hkI : ¬ (k : Int) < i := by omega
            go_wp2
            go_roundw
            case rel => exact ⟨i + 1, _, by omega, by go_num, rfl⟩
            case measure => simp [intOf]; omega
    · obtain rfl : i = 19 := by omega
      clear he ht hS0
      go_wp2
      go_ret
      exact ⟨rfl, below_drewN hb0 _⟩
end Go.Proofs.YtdnelmbihblakabDoor
