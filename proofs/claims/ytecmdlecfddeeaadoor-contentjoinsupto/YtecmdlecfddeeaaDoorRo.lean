/- What vellumref04.Refuse and Check answer: what an insert is refused with. -/
import Derived.Test.YtecmdlecfddeeaaDoorSw
import Derived.Test.YtecmdlecfddeeaaDoorRc
namespace Go.Proofs.YtecmdlecfddeeaaDoor
open Go Go.RowKit Go.Lib
set_option linter.unusedVariables false

theorem Fit.tiny {o : Op5} (h : Fit o) : Tiny o.A := h.A

set_option maxHeartbeats 2000000 in
theorem ref_ins {I : List Nat} {a : Nat → Addr} (o : Op5) (s : Value) (w : World) (hS : Std I a w) (hR : RN w s o.A) (hF : Fit o) :
    Calls Tryd.prog 10 #[opV o s] w fun r w' => r = .returned (.int .i64 (insE o)) ∧ Below w.heap.size w w' := by
  have b0 := (Below.refl w.heap.size w).alloc (Nat.le_refl _) (.cells (opC o s) 26)
  have D0 := BoxO.new w o s
  have cU : Hid (∀ b, decide (brk o.t.data.toList = o.t.size) = b → ∀ W, Calls Tryd.prog 31 #[.string o.t] W fun r w' => r = .returned (.bool b) ∧ Below W.heap.size W w') := fun b hb W => ref_utf8 o.t W (by have := hF.t; omega) b hb
  have cV : Hid (∀ W, Calls Tryd.prog 32 #[pl o.v.1 o.v.2.1 o.v.2.2] W fun r w' => r = .returned (.int .i64 (chkP o.v)) ∧ Below W.heap.size W w') := fun W => ref_chk _ _ _ W (by have := hF.v; omega)
  have cA : Hid (∀ W, Below w.heap.size w W → Calls Tryd.prog 33 #[s, .bool false] W fun r w' => r = .returned (.int .i64 (listE false none o.A)) ∧ Below W.heap.size W w') := fun W hW => ref_check s o.A false W (hS.below hW) (hR.row.below hW) hF.tiny (by have := hF.n; omega)
  obtain ⟨E, hE⟩ : ∃ E, insE o = E := ⟨_, rfl⟩
  rw [hE]
  obtain ⟨V, hV⟩ : ∃ V, chkP o.v = V := ⟨_, rfl⟩
  obtain ⟨L, hL⟩ : ∃ L, listE false none o.A = L := ⟨_, rfl⟩
  rw [hV] at cV
  rw [hL] at cA
  have hE' : E = if fldE o ≠ 0 then fldE o else if brk o.t.data.toList ≠ o.t.size then 1 else if V ≠ 0 then V else L := by rw [← hE, ← hV, ← hL]; rfl
  have hz : o.v = z0 → V = 0 := fun h => by rw [← hV, h]; exact chk_z0
  obtain ⟨U, hU⟩ : ∃ U, decide (brk o.t.data.toList = o.t.size) = U := ⟨_, rfl⟩
  have hU' : (brk o.t.data.toList ≠ o.t.size) = (U = false) := by rw [← hU]; simp
  simp only [hU'] at hE'
  have cU : Hid (∀ W, Calls Tryd.prog 31 #[.string o.t] W fun r w' => r = .returned (.bool U) ∧ Below W.heap.size W w') := cU.out U hU
  clear hE hV hL hU hU' hF hS hR
  have HD : Hid (BoxO (w.alloc (.cells (opC o s) 26)) w.heap.size o s) := D0
  have HA : Hid (∀ W, Below (w.alloc (.cells (opC o s) 26)).heap.size (w.alloc (.cells (opC o s) 26)) W → Calls Tryd.prog 33 #[s, .bool false] W fun r w' => r = .returned (.int .i64 L) ∧ Below W.heap.size W w') := fun W hW => cA.out W (b0.trans (hW.mono b0.size))
  clear cA
  obtain ⟨k, t, ⟨x, n, u⟩, c, A⟩ := o
  obtain ⟨d0, d1, d2, d3, d4, d5, d6⟩ := D0
  simp only at d0 d1 d2 d3 d4 d5 d6 cU cV hz
  simp only [opC] at b0 d0 d1 d2 d3 d4 d5 d6 HD HA
  have gd := fun op x' y' w => guard_pl op x' y' (x, n, u) (0, 0, ⟨#[]⟩) w
  unfold fldE at hE'
  simp only at hE'
  have fin : ∀ w2, Below (w.alloc (.cells #[.int .i64 k, .string t, .int .i64 x, .int .i64 n, .string u, .int .i64 c, s] 26)).heap.size (w.alloc (.cells #[.int .i64 k, .string t, .int .i64 x, .int .i64 n, .string u, .int .i64 c, s] 26)) w2 → Below w.heap.size w w2 := fun w2 h => b0.trans (h.mono b0.size)
  by_cases k1 : k = 1
  · subst k1
    by_cases c0 : c = 0
    · subst c0
      cases he : t.toList.isEmpty with
      | true =>
        have hE2 : E = 9 := by rw [hE']; simp [he]
        subst hE2
        clear gd cU cV HA hz hE' HD fin
        go_enter Tryd.func10, Tryd.ntmps10
        go_wp2
        go_ret
        exact ⟨rfl, b0⟩
      | false =>
        by_cases hz0 : (x, n, u) = z0
        · have hne := neq_pl (x, n, u) (0, 0, ⟨#[]⟩) false (by rw [hz0]; show (!samP z0 z0) = false; rw [samP_self]; rfl)
          have hV0 := hz hz0
          cases U with
          | false =>
            have hE2 : E = 1 := by rw [hE']; simp [he, hz0]
            subst hE2
            clear hz hz0 hV0 cV HA hE' HD
            go_enter Tryd.func10, Tryd.ntmps10
            go_wp2_with fail
            refine (cU.out _).mono ?_; rintro r w2 ⟨rfl, h2⟩
            have b2 := fin _ h2
            go_wp2
            go_ret
            exact ⟨rfl, b2⟩
          | true =>
            have hE2 : E = L := by rw [hE', hV0]; simp [he, hz0]
            subst hE2
            clear hz hz0 hV0 cV hE'
            go_enter Tryd.func10, Tryd.ntmps10
            go_wp2_with fail
            refine (cU.out _).mono ?_; rintro r w2 ⟨rfl, h2⟩
            obtain ⟨p0, p1, p2, p3, p4, p5, p6⟩ := HD.out.below h2
            simp only at p0 p1 p2 p3 p4 p5 p6
            have c2 := HA.out _ h2
            have b2 := fin _ h2
            clear d0 d1 d2 d3 d4 d5 d6 h2
            go_wp2_with fail
            refine c2.mono ?_; rintro r w3 ⟨rfl, h3⟩
            go_wp2
            go_ret
            exact ⟨rfl, b2.trans (h3.mono b2.size)⟩
        · have hne := neq_pl (x, n, u) (0, 0, ⟨#[]⟩) true (by show (!samP (x, n, u) z0) = true; rw [samP_ne hz0]; rfl)
          have hE2 : E = 9 := by rw [hE']; simp [he, hz0]
          subst hE2
          clear hz hz0 cV cU HA hE' HD fin
          go_enter Tryd.func10, Tryd.ntmps10
          go_wp2
          go_ret
          exact ⟨rfl, b0⟩
    · have hc : (c == 0) = false := by simpa using c0
      have hE2 : E = 9 := by rw [hE']; simp [c0]
      subst hE2
      clear hz cV cU HA hE' HD fin c0
      go_enter Tryd.func10, Tryd.ntmps10
      go_wp2
      go_ret
      exact ⟨rfl, b0⟩
  · have hk1 : (k != 1) = true := by simpa using k1
    by_cases k2 : k = 2
    · subst k2
      clear hk1 k1
      by_cases c0 : c = 0
      · subst c0
        cases he : t.toList.isEmpty with
        | true =>
          have hE2 : E = 6 := by rw [hE']; simp [he]
          subst hE2
          clear gd cU cV HA hz hE' HD fin
          go_enter Tryd.func10, Tryd.ntmps10
          go_wp2
          go_ret
          exact ⟨rfl, b0⟩
        | false =>
          by_cases h64 : 64 < t.size
          · have h64I : (64 : Int) < (t.size : Int) := by omega
            have hE2 : E = 6 := by rw [hE']; simp [he, h64]
            subst hE2
            clear gd cU cV HA hz hE' HD fin
            go_enter Tryd.func10, Tryd.ntmps10
            go_wp2
            go_ret
            exact ⟨rfl, b0⟩
          · have h64I : ¬ (64 : Int) < (t.size : Int) := by omega
            cases U with
            | false =>
              have hE2 : E = 1 := by rw [hE']; simp [he, h64]
              subst hE2
              clear hz cV HA hE' HD gd
              go_enter Tryd.func10, Tryd.ntmps10
              go_wp2_with fail
              refine (cU.out _).mono ?_; rintro r w2 ⟨rfl, h2⟩
              have b2 := fin _ h2
              go_wp2
              go_ret
              exact ⟨rfl, b2⟩
            | true =>
              by_cases hV : V = 0
              · have hE2 : E = L := by rw [hE']; simp [he, h64, hV]
                subst hE2
                subst hV
                clear hz hE' gd
                go_enter Tryd.func10, Tryd.ntmps10
                go_wp2_with fail
                refine (cU.out _).mono ?_; rintro r w2 ⟨rfl, h2⟩
                obtain ⟨p0, p1, p2, p3, p4, p5, p6⟩ := HD.out.below h2
                simp only at p0 p1 p2 p3 p4 p5 p6
                clear d0 d1 d2 d3 d4 d5 d6
                go_wp2_with fail
                refine (cV.out _).mono ?_; rintro r w3 ⟨rfl, h3⟩
                have h23 := h2.trans (h3.mono h2.size)
                obtain ⟨q0, q1, q2, q3, q4, q5, q6⟩ := HD.out.below h23
                simp only at q0 q1 q2 q3 q4 q5 q6
                have c2 := HA.out _ h23
                have b3 := fin _ h23
                clear p0 p1 p2 p3 p4 p5 p6 h2 h3 h23
                go_wp2_with fail
                refine c2.mono ?_; rintro r w4 ⟨rfl, h4⟩
                go_wp2
                go_ret
                exact ⟨rfl, b3.trans (h4.mono b3.size)⟩
              · have hE2 : E = V := by rw [hE']; simp [he, h64, hV]
                subst hE2
                have hVI : ((E : Int) == 0) = false := by simp; omega
                clear hz hE' gd HA
                go_enter Tryd.func10, Tryd.ntmps10
                go_wp2_with fail
                refine (cU.out _).mono ?_; rintro r w2 ⟨rfl, h2⟩
                obtain ⟨p0, p1, p2, p3, p4, p5, p6⟩ := HD.out.below h2
                simp only at p0 p1 p2 p3 p4 p5 p6
                clear d0 d1 d2 d3 d4 d5 d6
                go_wp2_with fail
                refine (cV.out _).mono ?_; rintro r w3 ⟨rfl, h3⟩
                have b3 := fin _ (h2.trans (h3.mono h2.size))
                go_wp2
                go_ret
                exact ⟨rfl, b3⟩
      · have hc : (c == 0) = false := by simpa using c0
        have hE2 : E = 9 := by rw [hE']; simp [c0]
        subst hE2
        clear hz cV cU HA hE' HD fin c0 gd
        go_enter Tryd.func10, Tryd.ntmps10
        go_wp2
        go_ret
        exact ⟨rfl, b0⟩
    · have hk2 : (k != 2) = true := by simpa using k2
      have hE2 : E = 5 := by rw [hE']; simp [k1, k2]
      subst hE2
      clear hz cV cU HA hE' HD fin gd k1 k2
      go_enter Tryd.func10, Tryd.ntmps10
      go_wp2
      go_ret
      exact ⟨rfl, b0⟩
end Go.Proofs.YtecmdlecfddeeaaDoor
