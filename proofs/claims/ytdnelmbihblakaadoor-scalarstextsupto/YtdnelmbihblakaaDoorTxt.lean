/- What scalars.Text answers, and vellumlaw01.sameRunes, of slices of numbers wherever they lie. -/
import Derived.Test.YtdnelmbihblakaaDoorCut
import Derived.Deep.WholeRow
namespace Go.Proofs.YtdnelmbihblakaaDoor
open Go Go.RowKit Go.Lib
set_option linter.unusedVariables false

/-- A value is a slice of the numbers zs. -/
structure Row32 (w : World) (v : Value) (zs : List Int) : Prop where
  ex : ∃ p cap, v = .slice p zs.length cap ∧ ∀ j, j < zs.length → ∃ b off, p = some ⟨b, off, none⟩ ∧ w.cell? ⟨b, off + j, none⟩ = some (.int .i32 (zs.getD j 0))

theorem Row32.below {w w' : World} {v : Value} {zs : List Int} (h : Row32 w v zs) (hb : Below w.heap.size w w') : Row32 w' v zs := by
  obtain ⟨p, cap, hv, hc⟩ := h.ex
  refine ⟨p, cap, hv, fun j hj => ?_⟩
  obtain ⟨b, off, hp, hcell⟩ := hc j hj
  exact ⟨b, off, hp, by rw [hb.cell (lt_of_cell hcell)]; exact hcell⟩

def isScal (z : Int) : Prop := (0 ≤ z ∧ z < 55296) ∨ (57344 ≤ z ∧ z ≤ 1114111)

theorem widthZ_scal {r : Nat} (h : scal r) : widthZ r = ((enc r).length : Int) := by
  rw [enc_len h]
  unfold scal at h
  unfold widthZ runeLen
  repeat' split
  all_goals omega
theorem widthZ_not {z : Int} (h : ¬ isScal z) : widthZ z = 0 := by
  unfold isScal at h
  unfold widthZ runeLen
  repeat' split
  all_goals omega

theorem width_scal {r : Nat} (h : scal r) (w : World) : Calls Tryd.prog 23 #[.int .i32 r] w fun e w' => e = .returned (.int .i64 ((enc r).length : Nat)) ∧ w' = w := by
  have := width_any r w
  rwa [widthZ_scal h] at this
theorem width_not {z : Int} (h : ¬ isScal z) (w : World) : Calls Tryd.prog 23 #[.int .i32 z] w fun e w' => e = .returned (.int .i64 0) ∧ w' = w := by
  have := width_any z w
  rwa [widthZ_not h] at this

theorem encs_le (rs : List Nat) (h : ∀ r ∈ rs, scal r) : (encs rs).length ≤ 4 * rs.length := by
  induction rs with
  | nil => simp [encs]
  | cons x rs ih =>
    have := enc_pos (h x (by simp))
    have := ih fun r hr => h r (by simp [hr])
    simp only [encs, List.length_append, List.length_cons]
    omega

theorem fresh_heap (w : World) : (w.alloc (.cells #[.pointer none, .slice none 0 0] 69)).heap[w.heap.size]? = some (.cells #[.pointer none, .slice none 0 0] 69 (0, 0)) := heap_alloc_last w _

theorem grow_here (w : World) (n : Nat) (hn : n ≤ 281474976710656) :
    Calls Tryd.prog 36 #[.pointer (some ⟨w.heap.size, 0, none⟩), .int .i64 n] (w.alloc (.cells #[.pointer none, .slice none 0 0] 69)) fun e w' => e = .returned (.tuple #[]) ∧ IsBuilderF 69 5 w.heap.size w.heap.size [] w' ∧ Below w.heap.size w w' ∧ w.heap.size < w'.heap.size := by
  refine (Tryd.Builder_Grow_fresh w.heap.size w.heap.size n _ (Nat.le_refl _) (fresh_heap w) (by simp) hn).mono fun e w' ⟨he, hI, hb⟩ => ?_
  refine ⟨he, Or.inr (BuilderAtF.of hI), ((Below.refl _ _).alloc (Nat.le_refl _) _).trans hb, ?_⟩
  have := hb.size
  simp at this
  omega

def ints (rs : List Nat) : List Int := rs.map fun (r : Nat) => ((r : Nat) : Int)
theorem ints_length (rs : List Nat) : (ints rs).length = rs.length := by simp [ints]
theorem ints_get (rs : List Nat) (k : Nat) (h : k < rs.length) : (ints rs).getD k 0 = ((rs[k] : Nat) : Int) := by
  simp [ints, List.getD, List.getElem?_eq_getElem h]

set_option maxHeartbeats 1000000 in
theorem text_ok {a : Nat → Addr} (v : Value) (rs : List Nat) (w : World) (hv : Row32 w v (ints rs)) (hs : ∀ r ∈ rs, scal r) (hl : rs.length ≤ 35184372087808) :
    Calls Tryd.prog 21 #[v] w fun e w' => e = .returned (.tuple #[.string ⟨(encs rs).toArray⟩, .nilIface]) ∧ Below w.heap.size w w' := by
  obtain ⟨p, cap, rfl, hc⟩ := hv.ex
  obtain ⟨n, hn⟩ : ∃ n, rs.length = n := ⟨_, rfl⟩
  simp only [ints_length] at hc ⊢
  have hcell : ∀ k, (hk : k < n) → ∃ b off, p = some ⟨b, off, none⟩ ∧ w.cell? ⟨b, off + k, none⟩ = some (.int .i32 ((rs[k]'(by omega) : Nat) : Int)) := fun k hk => by
    obtain ⟨b, off, hp, h⟩ := hc k (by omega)
    refine ⟨b, off, hp, ?_⟩
    rw [h, ints_get]
  have hle : ∀ k, pos rs k ≤ 140737488351232 := fun k => by
    have h1 := pos_le rs k
    have h2 := encs_le rs hs
    omega
  have hnl : n ≤ 35184372087808 := by omega
  rw [hn]
  clear hc hv hl
  go_enter Tryd.func21, Tryd.ntmps21
  go_wp2
  go_loop [4, 13] (fun sz i => ∃ k : Nat, k ≤ n ∧ i = .int .i64 k ∧ sz = .int .i64 (pos rs k)) (fun _ i => n - (RowKit.intOf i).toNat)
  case atStart => exact ⟨0, Nat.zero_le _, rfl, rfl⟩
  case round =>
    obtain ⟨k, hk, rfl, rfl⟩ := hrel
    by_cases hlt : k < n
    · obtain ⟨b, off, rfl, hcl⟩ := hcell k hlt
      have hr := hs _ (List.getElem_mem (show k < rs.length by omega))
      have hp1 := pos_succ rs k (by omega)
      have hpl := hle (k + 1)
      have hep := enc_pos hr
      have hwd := fun W => width_scal hr W
      obtain ⟨R, hR⟩ : ∃ R, rs[k]'(by omega) = R := ⟨_, rfl⟩
      rw [hR] at hcl hp1 hep hwd
      obtain ⟨L, hL⟩ : ∃ L, (enc R).length = L := ⟨_, rfl⟩
      rw [hL] at hp1 hep hwd
      obtain ⟨P, hP⟩ : ∃ P, pos rs k = P := ⟨_, rfl⟩
      have HP : Hid (pos rs (k + 1) = P + L) := by show _ = _; rw [hp1, hP]
      rw [hp1] at hpl
      rw [hP] at hpl ⊢
      clear hcell hp1 hP hle hr hR hL hs hn
      go_wp2_with (go_at_call 23; refine (hwd _).mono ?_; rintro e w' ⟨rfl, rfl⟩)
      go_round
      case rel => exact ⟨k + 1, by omega, by go_num, by rw [HP.out]; go_num⟩
      case measure => simp [RowKit.intOf]; omega
    · obtain rfl : k = n := by omega
      have hpk := hle k
      obtain ⟨P, hP⟩ : ∃ P, pos rs k = P := ⟨_, rfl⟩
      have HP : Hid (pos rs k = P) := hP
      rw [hP] at hpk ⊢
      have hgrow := fun W => grow_here W P (by omega)
      clear hlt hP hk
      go_wp2_with (go_at_call 36; refine (hgrow _).mono ?_; rintro e w1 ⟨rfl, hI, hb, hz⟩)
      go_loopw [30] (fun i wr => ∃ k' : Nat, k' ≤ k ∧ i = .int .i64 k' ∧ IsBuilderF 69 5 w.heap.size w.heap.size (byteCells (encs (rs.take k'))) wr ∧ Below w.heap.size w wr ∧ w.heap.size < wr.heap.size) (fun i _ => k - (RowKit.intOf i).toNat)
      case atStart => exact ⟨0, Nat.zero_le _, rfl, hI, hb, hz⟩
      case round =>
        clear hI hb hz
        obtain ⟨j, hj, rfl, hI, hb, hz⟩ := hrel
        by_cases hlt : j < k
        · obtain ⟨b, off, rfl, hcl⟩ := hcell j hlt
          have hr := hs _ (List.getElem_mem (show j < rs.length by omega))
          have hbig := hle j
          have hcl' : wr.cell? ⟨b, off + j, none⟩ = _ := (hb.cell (lt_of_cell hcl)).trans hcl
          have hT : Hid (encs (rs.take (j + 1)) = encs (rs.take j) ++ enc (rs[j]'(by omega))) := by
            show _ = _
            rw [List.take_succ_eq_append_getElem (by omega), encs_snoc]
          obtain ⟨R, hR⟩ : ∃ R, rs[j]'(by omega) = R := ⟨_, rfl⟩
          rw [hR] at hcl' hr hT
          have hrb : R ≤ 1114111 := by unfold scal at hr; omega
          have hwr := fun W (hB : w.heap.size ≤ W.heap.size) h => Tryd.Builder_WriteRune_k w.heap.size w.heap.size (byteCells (encs (rs.take j))) (R : Int) (by omega) (by omega) W h (by rw [byteCells_length]; unfold pos at hbig; omega) hB
          clear hcell hcl hle hR hs hgrow hr hrb hbig
          go_wp2_with (go_at_call 37; refine (hwr _ (by omega) hI).mono ?_; rintro e w2 ⟨rfl, hI2, hb2, _⟩)
          go_roundw
          case rel =>
            refine ⟨j + 1, by omega, by go_num, ?_, hb.trans hb2, by have := hb2.size; omega⟩
            rw [hT.out, byteCells_append, show enc R = encodeRune (R : Int) from rfl, byteCells_encodeRune]
            exact Or.inr hI2
          case measure => simp [RowKit.intOf]; omega
        · obtain rfl : j = k := by omega
          have hall : rs.take j = rs := List.take_of_length_le (by omega)
          rw [hall] at hI
          have hst := fun W (hB : w.heap.size ≤ W.heap.size) h => Tryd.Builder_String_any_k w.heap.size w.heap.size (encs rs) W h hB
          clear hcell hle hs hgrow hall
          go_wp2_with (go_at_call 38; refine (hst _ (by omega) hI).mono ?_; rintro e w2 ⟨rfl, _, hb2, _⟩)
          go_ret2
          exact ⟨rfl, hb.trans hb2⟩

set_option maxHeartbeats 1000000 in
theorem text_no {a : Nat → Addr} (v : Value) (zs : List Int) (w : World) (hS : Sent a w) (hv : Row32 w v zs) (hs : ∃ z ∈ zs, ¬ isScal z) (hl : zs.length ≤ 35184372087808) :
    Calls Tryd.prog 21 #[v] w fun e w' => e = .returned (.tuple #[.string ⟨#[]⟩, errV a 0]) ∧ Below w.heap.size w w' := by
  obtain ⟨p, cap, rfl, hc⟩ := hv.ex
  obtain ⟨n, hn⟩ : ∃ n, zs.length = n := ⟨_, rfl⟩
  have herr : w.cell? ⟨0, 0, none⟩ = some (errV a 0) := hS.cell 0 (by omega)
  rw [hn] at hc hl ⊢
  clear hv hS
  go_enter Tryd.func21, Tryd.ntmps21
  go_wp2
  go_loop [4, 13] (fun sz i => ∃ (k m : Nat), k ≤ n ∧ i = .int .i64 k ∧ sz = .int .i64 m ∧ m ≤ 4 * k ∧ ∀ j, j < k → isScal (zs.getD j 0)) (fun _ i => n - (RowKit.intOf i).toNat)
  case atStart => exact ⟨0, 0, Nat.zero_le _, rfl, rfl, by omega, fun j hj => by omega⟩
  case round =>
    obtain ⟨k, m, hk, rfl, rfl, hm, hall⟩ := hrel
    by_cases hlt : k < n
    · obtain ⟨b, off, rfl, hcl⟩ := hc k hlt
      have HA : Hid (∀ j, j < k → isScal (zs.getD j 0)) := hall
      by_cases hsc : isScal (zs.getD k 0)
      · obtain ⟨R, hR⟩ : ∃ R : Nat, zs.getD k 0 = (R : Int) := ⟨(zs.getD k 0).toNat, by unfold isScal at hsc; omega⟩
        have HB : Hid (isScal (zs.getD k 0)) := hsc
        have hr : scal R := by unfold isScal at hsc; unfold scal; omega
        have hep := enc_pos hr
        have hwd := fun W => width_scal hr W
        obtain ⟨L, hL⟩ : ∃ L, (enc R).length = L := ⟨_, rfl⟩
        rw [hL] at hep hwd
        rw [hR] at hcl
        clear hc hr hR hL hs hn hsc hall
        go_wp2_with (go_at_call 23; refine (hwd _).mono ?_; rintro e w' ⟨rfl, rfl⟩)
        go_round
        case rel =>
          refine ⟨k + 1, m + L, by omega, by go_num, by go_num, by omega, fun j hj => ?_⟩
          by_cases hjk : j < k
          · exact HA.out j hjk
          · obtain rfl : j = k := by omega
            exact HB.out
        case measure => simp [RowKit.intOf]; omega
      · have hwd := fun W => width_not hsc W
        obtain ⟨z, hz⟩ : ∃ z, zs.getD k 0 = z := ⟨_, rfl⟩
        rw [hz] at hcl hwd
        clear hc hs hn hsc hall hz HA
        go_wp2_with (go_at_call 23; refine (hwd _).mono ?_; rintro e w' ⟨rfl, rfl⟩)
        go_quiet (fail)
        go_wp2
        go_ret2
        exact ⟨rfl, below_drewN (Below.refl _ _) _⟩
    · exfalso
      obtain ⟨z, hz, hns⟩ := hs
      obtain ⟨j, hj, rfl⟩ := List.getElem_of_mem hz
      have := hall j (by omega)
      rw [List.getD, List.getElem?_eq_getElem hj] at this
      exact hns this
end Go.Proofs.YtdnelmbihblakaaDoor
