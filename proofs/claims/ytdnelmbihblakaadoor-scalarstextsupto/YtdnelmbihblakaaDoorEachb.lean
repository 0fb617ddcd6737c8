/- The body of each's loop over scalars.Each, walked once. -/
import Derived.Test.YtdnelmbihblakaaDoorEachh
namespace Go.Proofs.YtdnelmbihblakaaDoor
open Go Go.RowKit Go.Lib Go.Shelf
set_option linter.unusedVariables false
attribute [local go_sem] Oper.semAt_some

/-- The first loop over a function within a code, its body. -/
def rfBody : Code → Option Code
  | .rangeFunc _ _ _ b => some b
  | .seq a b => (rfBody a).orElse fun _ => rfBody b
  | .block _ c => rfBody c
  | .loop c => rfBody c
  | _ => none

set_option maxHeartbeats 4000000 in
set_option maxRecDepth 100000 in
theorem each_body (eachBody : Code) (hcode : (Tryd.f17.body).bind rfBody = some eachBody) (rs : List Nat) (n : Nat) (hrs : scals rs) (hn : rs.length = n) (hnl : n ≤ 1048576) (hel : (encs rs).length ≤ 1048576) (p : Option Addr) (cap X B : Nat) (stop turn : Int) (hturn : turn = 0 ∨ turn = 1) (w0 : World)
    (hc : ∀ j, j < n → ∃ b off, p = some ⟨b, off, none⟩ ∧ w0.cell? ⟨b, off + j, none⟩ = some (.int .i32 ((ints rs).getD j 0)))
    (hbl : w0.cell? ⟨X, 0, none⟩ = some (.slice p n cap)) (hbs : w0.cell? ⟨X + 1, 0, none⟩ = some (.int .i64 stop)) (hbr : w0.cell? ⟨X + 1 + 1, 0, none⟩ = some (.bool false)) (hfr : w0.frozen? ⟨X + 1 + 1, 0, none⟩ = false)
    (hbt : w0.cell? ⟨B, 0, none⟩ = some (.int .i64 turn)) (A : Nat) (hA : w0.heap.size = A) (hBl : B < w0.heap.size) (hXl : X + 1 + 1 < w0.heap.size) (l : Nat) (pre : List (Nat × Nat)) (x : Nat × Nat) (W : World) (hEI : EI rs w0 pre W) (hlen : pre.length < rs.length)
    {u0 u1 u2 u3 u7 u13 u14 u15 u16 u17 u18 u19 u20 u21 u22 u23 u24 u25 u26 u27 u28 u29 u30 u31 u32 u33 u34 u35 u36 u37 u38 u39 u40 u41 u42 u43 u44 u45 u46 u47 u48 u49 u50 u51 u52 u53 u54 u55 u56 u57 u58 u59 u60 u61 u62 u63 u64 u65 u66 u67 : Value} :
    eachBody.wpIn (Fence.wide.inRound l) 3 Tryd.prog (ownPostK (Below w0.heap.size) (EI rs w0) (EX rs w0 turn stop) (pre ++ [x]) W)
      { tmps := #[u0, u1, u2, u3, .pointer (some ⟨X, 0, none⟩), .pointer (some ⟨X + 1, 0, none⟩), .pointer (some ⟨X + 1 + 1, 0, none⟩), u7, .pointer (some ⟨B, 0, none⟩), .pointer (some ⟨A, 0, none⟩), .pointer (some ⟨A + 1, 0, none⟩), .int .i64 x.1, .int .i32 x.2, u13, u14, u15, u16, u17, u18, u19, u20, u21, u22, u23, u24, u25, u26, u27, u28, u29, u30, u31, u32, u33, u34, u35, u36, u37, u38, u39, u40, u41, u42, u43, u44, u45, u46, u47, u48, u49, u50, u51, u52, u53, u54, u55, u56, u57, u58, u59, u60, u61, u62, u63, u64, u65, u66, u67], defers := [] } W := by
  subst hA
  obtain ⟨x1, x2⟩ := x
  have HEI : Hid (EI rs w0 pre W) := hEI
  obtain ⟨⟨⟨hpre, hpl⟩, ⟨hci, hfi⟩, ⟨hca, hfa⟩⟩, hB⟩ := hEI
  obtain ⟨k, hk⟩ : ∃ k, pre.length = k := ⟨_, rfl⟩
  rw [hk] at hpre hpl hci hca hlen
  have hlk : k < n := by omega
  have hlkI : ¬ ((k : Int) ≥ n) := by omega
  obtain ⟨b, off, rfl, hcell⟩ := hc k hlk
  rw [ints_get rs k hlen] at hcell
  have hcw : W.cell? ⟨b, off + k, none⟩ = some (.int .i32 (rs[k] : Nat)) := by
    rw [hB.cell (lt_of_cell hcell)]; exact hcell
  have hlb : W.cell? ⟨X, 0, none⟩ = some (.slice (some ⟨b, off, none⟩) n cap) := by rw [hB.cell (lt_of_cell hbl)]; exact hbl
  have hsb : W.cell? ⟨X + 1, 0, none⟩ = some (.int .i64 stop) := by rw [hB.cell (lt_of_cell hbs)]; exact hbs
  have hrb : W.cell? ⟨X + 1 + 1, 0, none⟩ = some (.bool false) := by rw [hB.cell (lt_of_cell hbr)]; exact hbr
  have hrf : W.frozen? ⟨X + 1 + 1, 0, none⟩ = false := by rw [hB.frozen (lt_of_cell hbr)]; exact hfr
  have htb : W.cell? ⟨B, 0, none⟩ = some (.int .i64 turn) := by rw [hB.cell (lt_of_cell hbt)]; exact hbt
  have hsn := tgt_snoc rs k hlen
  rw [← hpre] at hsn
  have hr := hrs _ (List.getElem_mem hlen)
  have cW := ref_width_yes hr
  have hps := pos_succ rs k hlen
  have hpe := pos_le rs (k + 1)
  obtain ⟨R, hR⟩ : ∃ R, rs[k] = R := ⟨_, rfl⟩
  obtain ⟨P, hP⟩ : ∃ P, pos rs k = P := ⟨_, rfl⟩
  obtain ⟨L, hL⟩ : ∃ L, (enc R).length = L := ⟨_, rfl⟩
  simp only [hR, hP, hL] at hcw hsn cW hps hca
  have hPL : (P : Int) + L ≤ 1048576 := by omega
  have hkk : (k : Int) + 1 ≤ 1048576 := by omega
  have HI : Hid (pre ++ [(P, R)] = (tgt rs).take (k + 1) ∧ pos rs (k + 1) = P + L ∧ k + 1 ≤ rs.length ∧ pre.length = k) := ⟨hsn.symm, hps, hlen, hk⟩
  have HX : Hid (∀ y, y ≠ (P, R) → ¬ pre ++ [y] <+: tgt rs) := fun y hy h => by
    have h1 := List.prefix_iff_eq_take.1 h
    rw [List.length_append, hk, List.length_singleton, hsn] at h1
    have h2 := List.append_cancel_left h1
    exact hy (by simpa using h2)
  clear hsn hps hpe hel hpl hB hpre hR hP hL hk hr hlen hc hcell hbl hbs hbr hfr hbt hrs hn
  delta Tryd.f17 at hcode
  simp only [rfBody, Option.bind_some, Option.some.injEq, Option.orElse] at hcode
  subst hcode
  have hd : 1 ≤ 3 := by decide
  have hmx : Tryd.prog.follows .mixedOrders = true := by kernel_rfl
  have z1 : ¬ B = w0.heap.size + 1 := by omega
  have z2 : ¬ B = w0.heap.size := by omega
  have z3 : ¬ X + 1 = w0.heap.size + 1 := by omega
  have z4 : ¬ X + 1 = w0.heap.size := by omega
  have z5 : ¬ w0.heap.size + 1 = B := by omega
  have z6 : ¬ w0.heap.size = B := by omega
  have z7 : ¬ w0.heap.size = X := by omega
  have z8 : ¬ w0.heap.size = X + 1 := by omega
  clear hBl hXl
  by_cases hx1 : x1 = P
  · by_cases hx2 : x2 = R
    · subst hx1 hx2
      clear HX
      rcases hturn with rfl | rfl
      · by_cases hgt : stop < (k : Int) + 1
        · gi_wp2
          gi_region_with_o (refine ⟨trivial, ?_⟩; gi_at_call 24; refine (CallsIn.inRound l (callsIn_wide.2 (cW _))).mono ?_; rintro e w' ⟨rfl, hbw⟩; have hca' := (hbw.cell (lt_of_cell hca)).trans hca; have hfa' := (hbw.frozen (lt_of_cell hca)).trans hfa; have hci' := (hbw.cell (lt_of_cell hci)).trans hci; have hfi' := (hbw.frozen (lt_of_cell hci)).trans hfi; have htb' := (hbw.cell (lt_of_cell htb)).trans htb; have hsb' := (hbw.cell (lt_of_cell hsb)).trans hsb)
          all_goals gi_wp2
          all_goals
            obtain ⟨q1, q2, q3, q4⟩ := HI.out
            obtain ⟨g1, g2, g3⟩ := EI_step hbw HEI.out q1 q2 q3 q4 rfl rfl
            exact ⟨g1, .inl ⟨rfl, rfl, by rw [List.length_append, q4, List.length_singleton]; exact hgt, g3⟩⟩
        · have hle : (k : Int) + 1 ≤ stop := by omega
          have hleB : decide (stop < (k : Int) + 1) = false := decide_eq_false hgt
          clear hgt
          gi_wp2
          gi_region_with_o (refine ⟨trivial, ?_⟩; gi_at_call 24; refine (CallsIn.inRound l (callsIn_wide.2 (cW _))).mono ?_; rintro e w' ⟨rfl, hbw⟩; have hca' := (hbw.cell (lt_of_cell hca)).trans hca; have hfa' := (hbw.frozen (lt_of_cell hca)).trans hfa; have hci' := (hbw.cell (lt_of_cell hci)).trans hci; have hfi' := (hbw.frozen (lt_of_cell hci)).trans hfi; have htb' := (hbw.cell (lt_of_cell htb)).trans htb; have hsb' := (hbw.cell (lt_of_cell hsb)).trans hsb)
          all_goals gi_wp2
          all_goals
            obtain ⟨q1, q2, q3, q4⟩ := HI.out
            exact EI_step hbw HEI.out q1 q2 q3 q4 rfl rfl
      · gi_wp2
        gi_region_with_o (refine ⟨trivial, ?_⟩; gi_at_call 24; refine (CallsIn.inRound l (callsIn_wide.2 (cW _))).mono ?_; rintro e w' ⟨rfl, hbw⟩; have hca' := (hbw.cell (lt_of_cell hca)).trans hca; have hfa' := (hbw.frozen (lt_of_cell hca)).trans hfa; have hci' := (hbw.cell (lt_of_cell hci)).trans hci; have hfi' := (hbw.frozen (lt_of_cell hci)).trans hfi; have htb' := (hbw.cell (lt_of_cell htb)).trans htb; have hsb' := (hbw.cell (lt_of_cell hsb)).trans hsb)
        all_goals gi_wp2
        all_goals
          obtain ⟨q1, q2, q3, q4⟩ := HI.out
          exact EI_step hbw HEI.out q1 q2 q3 q4 rfl rfl
    · have hxI : ¬ ((x2 : Int) = R) := by omega
      have hxB : ((x2 : Int) != R) = true := by rw [bne_iff_ne]; omega
      clear hx1 HI HEI
      gi_wp2
      exact ⟨KeepsOthers.setCell _ _ _, .inr ⟨rfl, HX.out _ (fun h => by cases h; exact hx2 rfl)⟩⟩
  · have hxI : ¬ ((x1 : Int) = P) := by omega
    have hxB : ((x1 : Int) != P) = true := by rw [bne_iff_ne]; omega
    clear HI HEI
    by_cases hx2 : x2 = R
    · subst hx2
      gi_wp2
      exact ⟨KeepsOthers.setCell _ _ _, .inr ⟨rfl, HX.out _ (fun h => by cases h; exact hx1 rfl)⟩⟩
    · have hyI : ¬ ((x2 : Int) = R) := by omega
      have hyB : ((x2 : Int) != R) = true := by rw [bne_iff_ne]; omega
      gi_wp2
      exact ⟨KeepsOthers.setCell _ _ _, .inr ⟨rfl, HX.out _ (fun h => by cases h; exact hx1 rfl)⟩⟩
end Go.Proofs.YtdnelmbihblakaaDoor
