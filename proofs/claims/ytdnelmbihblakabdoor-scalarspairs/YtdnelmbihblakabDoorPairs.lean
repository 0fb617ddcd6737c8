/- Of all four numbers of 16 bits vellumlaw01.ScalarsPairs answers true and leaves them as they are. -/
import Derived.Test.YtdnelmbihblakabDoorStd
import Derived.Test.YtdnelmbihblakabDoorLives
namespace Go.Proofs.YtdnelmbihblakabDoor
open Go Go.RowKit Go.Lib Go.ChangeShapes Go.WideShapes Go.ChangeAt
set_option linter.unusedVariables false

/-- The law's walk, each test decided ahead: xy: the two scalars are one, hi: the two higher ones, lm: the two lower ones. -/
theorem pairs_core (w : World) {ad : Nat → Addr} (hS : Std ad w) (a b c d x y : Int) (ha : 0 ≤ a ∧ a ≤ 65535) (hb : 0 ≤ b ∧ b ≤ 65535) (hc : 0 ≤ c ∧ c ≤ 65535) (hd : 0 ≤ d ∧ d ≤ 65535)
    (hx : x = 65536 + a % 1024 * 1024 + b % 1024) (hy : y = 65536 + c % 1024 * 1024 + d % 1024) :
    Calls Tryd.prog 3 #[.int .u16 a, .int .u16 b, .int .u16 c, .int .u16 d] w fun e w' => e = .returned (.bool true) ∧ Below w.heap.size w w' := by
  have L := lives_any w hS
  have p1 : ∀ W, Calls Tryd.prog 6 #[.int .i32 (55296 + a % 1024), .int .i32 (56320 + b % 1024)] W fun e w' => e = .returned (.tuple #[.int .i32 x, .nilIface]) ∧ w' = W := fun W => by
    have := pair_ok (55296 + a % 1024) (56320 + b % 1024) W (by omega) (by omega) (by omega) (by omega)
    rwa [show (65536 + (55296 + a % 1024 - 55296) * 1024 + (56320 + b % 1024 - 56320) : Int) = x from by omega] at this
  have p2 : ∀ W, Calls Tryd.prog 6 #[.int .i32 (55296 + c % 1024), .int .i32 (56320 + d % 1024)] W fun e w' => e = .returned (.tuple #[.int .i32 y, .nilIface]) ∧ w' = W := fun W => by
    have := pair_ok (55296 + c % 1024) (56320 + d % 1024) W (by omega) (by omega) (by omega) (by omega)
    rwa [show (65536 + (55296 + c % 1024 - 55296) * 1024 + (56320 + d % 1024 - 56320) : Int) = y from by omega] at this
  have p3 : ∀ W, Std ad W → Calls Tryd.prog 6 #[.int .i32 (56320 + b % 1024), .int .i32 (55296 + a % 1024)] W fun e w' => e = .returned (.tuple #[.int .i32 0, errV ad 0]) ∧ Below W.heap.size W w' := fun W h =>
    pair_no _ _ W h.sent (by omega)
  have p4 : ∀ W, Std ad W → Calls Tryd.prog 7 #[errV ad 0] W fun e w' => e = .returned (.int .i64 1) ∧ Below W.heap.size W w' := fun W h => num_err h.sent 0 (by omega)
  have p5 : ∀ W, Calls Tryd.prog 8 #[.int .i32 x] W fun e w' => e = .returned (.int .i64 4) ∧ w' = W := fun W => by
    have := width_any x W
    rwa [show widthZ x = 4 from by unfold widthZ runeLen; repeat' split
                                   all_goals omega] at this
  have hxl : x ≥ 65536 := by omega
  have hxh : x ≤ 1114111 := by omega
  have key : (a % 1024 = c % 1024 ∧ b % 1024 = d % 1024 ∧ x = y) ∨ (a % 1024 = c % 1024 ∧ ¬ b % 1024 = d % 1024 ∧ ¬ x = y) ∨ (¬ a % 1024 = c % 1024 ∧ ¬ x = y) := by omega
  obtain ⟨ha0, ha1⟩ := ha
  obtain ⟨hb0, hb1⟩ := hb
  obtain ⟨hc0, hc1⟩ := hc
  obtain ⟨hd0, hd1⟩ := hd
  have HS : Hid (Std ad w) := hS
  have HK : Hid ((a % 1024 = c % 1024 ∧ b % 1024 = d % 1024 ∧ x = y) ∨ (a % 1024 = c % 1024 ∧ ¬ b % 1024 = d % 1024 ∧ ¬ x = y) ∨ (¬ a % 1024 = c % 1024 ∧ ¬ x = y)) := key
  clear hx hy hS key
  go_enter Tryd.func3, Tryd.ntmps3
  go_wp2_with fail
  refine L.mono ?_; rintro e w1 ⟨rfl, b1⟩
  go_wp2_with fail
  refine (p1 _).mono ?_; rintro e w2 ⟨rfl, rfl⟩
  go_wp2_with fail
  refine (p2 _).mono ?_; rintro e w2 ⟨rfl, rfl⟩
  go_wp2_with fail
  refine (p3 _ (HS.out.below b1)).mono ?_; rintro e w3 ⟨rfl, b3⟩
  have b13 := b1.trans (b3.mono b1.size)
  go_wp2_with fail
  refine (p4 _ (HS.out.below b13)).mono ?_; rintro e w4 ⟨rfl, b4⟩
  have b14 := b13.trans (b4.mono b13.size)
  clear p1 p2 p3 p4 L b1 b3 b4 b13
  rcases HK.out with ⟨k1, k2, k3⟩ | ⟨k1, k2, k3⟩ | ⟨k1, k3⟩
  · subst k3
    go_wp2_with fail
    refine (p5 _).mono ?_; rintro e w5 ⟨rfl, rfl⟩
    go_wp2
    go_ret
    exact ⟨rfl, b14⟩
  · have e1 : (x == y) = false := by simpa using k3
    have e2 : (56320 + b % 1024 == 56320 + d % 1024) = false := by simp; omega
    go_wp2_with fail
    refine (p5 _).mono ?_; rintro e w5 ⟨rfl, rfl⟩
    go_wp2
    go_ret
    exact ⟨rfl, b14⟩
  · have e1 : (x == y) = false := by simpa using k3
    have e3 : (55296 + a % 1024 == 55296 + c % 1024) = false := by simp; omega
    go_wp2_with fail
    refine (p5 _).mono ?_; rintro e w5 ⟨rfl, rfl⟩
    go_wp2
    go_ret
    exact ⟨rfl, b14⟩

set_option maxRecDepth 100000 in
theorem pairs_lifted (os : Os) (started : os.Started) (H : Type) (enc : TypeId × Value → H) :
    ReturnsInHanded {} Tryd.checked os 3 .any (fun w args => (Rows.scalarsPairsSpec.pre enc Tryd.prog Tryd.f3 Rows.scalarsPairsRow.domain false w args ∧ laidMetH Tryd.prog laidL w) ∧ sizedMet enc Tryd.prog Tryd.f3 (OpenSpec.ofChange Rows.scalarsPairsSpec) false w args)
      (Rows.scalarsPairsSpec.post enc Tryd.prog Tryd.f3 false true false false) := by
  refine returnsInHanded_of_change_and (C := Tryd.checked) (X := fun w _ => laidMetH Tryd.prog laidL w) (fun _ _ _ hh h => h.of_heap hh) own started (by kernel_rfl) Tryd.func3
    (ChangeSpec.witness_shaped (enc := enc) (C := Tryd.checked) (os := os) (X := fun w _ => laidMetH Tryd.prog laidL w) false (World.laidAll Tryd.prog os laidL) #[.int .u16 0, .int .u16 0, .int .u16 0, .int .u16 0] 8 (World.laidAll_os _ _ _)
      (World.shaped_of_ZipB (by kernel_rfl) (by kernel_rfl)) (by kernel_rfl) (by kernel_rfl) (by kernel_rfl) (wit_met os _)) ?_
  intro W base args ds gs before hval0 hW _ _ hL _
  have hval : ∀ (j : Nat) t v, Tryd.f3.params[j]? = some t → args[j]? = some v → Value.okWide Tryd.prog W .any base t v := hval0
  have hW' := hW
  obtain ⟨p, q, hA0, hV, rfl, _, _⟩ := hW
  have hA : DataW.TrodAll enc Tryd.prog W 0 (fun _ => true) true Tryd.f3.params.toList args.toList ds p := hA0
  rw [Tryd.params3] at hA hval
  obtain ⟨v0, v1, v2, v3, d0, d1, d2, d3, p0, p1, p2, p3, rfl, rfl, rfl, h0, h1, h2, h3⟩ := trodAll_four hA
  obtain ⟨rfl, rfl⟩ := trodVars_none hV
  obtain ⟨a, rfl, rfl, rfl, wa⟩ := open_int Tryd.underlying22 (hval 0 22 v0 rfl rfl) h0
  obtain ⟨b, rfl, rfl, rfl, wb⟩ := open_int Tryd.underlying22 (hval 1 22 v1 rfl rfl) h1
  obtain ⟨c, rfl, rfl, rfl, wc⟩ := open_int Tryd.underlying22 (hval 2 22 v2 rfl rfl) h2
  obtain ⟨d, rfl, rfl, rfl, wd⟩ := open_int Tryd.underlying22 (hval 3 22 v3 rfl rfl) h3
  simp only [List.append_nil] at hW'
  have bd : ∀ {x : Int}, Lit.wf (.int .u16 x) = true → 0 ≤ x ∧ x ≤ 65535 := fun {x} h => by simpa [Lit.wf, IntKind.min, IntKind.max, IntKind.signed, IntKind.bits] using h
  obtain ⟨ad, hS⟩ := std_of_laid hL
  refine (pairs_core W hS a b c d _ _ (bd wa) (bd wb) (bd wc) (bd wd) rfl rfl).mono fun e W' ⟨he, hb⟩ => ?_
  subst he
  exact ⟨_, rfl, _, _, _, [], [], [], hW', trodAll_mk1 (shut_bool Tryd.underlying4 _), trodAll_mk4 (shut_int Tryd.underlying22 wa) (shut_int Tryd.underlying22 wb) (shut_int Tryd.underlying22 wc) (shut_int Tryd.underlying22 wd), rfl, hb.frame _, fun h => by cases h⟩

theorem pairs_said : Rows.ScalarsPairsSaid :=
  OpenClaim.holds_of_wide 3 Tryd.f3 rfl rfl rfl rfl rfl rfl rfl ⟨rfl, rfl, rfl, rfl, rfl⟩ rfl rfl rfl rfl rfl (by kernel_rfl) Tryd.func3 (by kernel_rfl)
    (of_decide_eq_true (by kernel_rfl)) (by unfold Func.isWrapper; first | (rw [if_pos (by decide +kernel)]; kernel_rfl) | (rw [if_neg (by decide +kernel)]; exact ⟨rfl, rfl⟩))
    (fun os started H enc _ => pairs_lifted os started H enc)

theorem pairs_plain (f : FuncId) (fn : Func) (hf : Tryd.pinned.checked.prog.funcNamed Rows.scalarsPairsRow.func = some f) (hfn : Tryd.pinned.checked.prog.funcs[f]? = some fn) :
    true = Tryd.pinned.checked.prog.looks [] ∧ ∀ (j : Nat) t, fn.params[j]? = some t → Tryd.pinned.checked.prog.wantsStandIn t = false := by
  obtain rfl : f = 3 := Option.some.inj ((show Tryd.prog.funcNamed Rows.scalarsPairsRow.func = some 3 by kernel_rfl).symm.trans hf) |>.symm
  obtain rfl : fn = Tryd.f3 := (Option.some.inj (Tryd.func3.symm.trans hfn)).symm
  refine ⟨by kernel_rfl, fun j t ht => ?_⟩
  rw [Tryd.params3] at ht
  have hm : t ∈ [22] := by simpa using Array.mem_of_getElem? ht
  have hall : ([22].all fun u => !Tryd.prog.wantsStandIn u) = true := by kernel_rfl
  exact (show Tryd.prog.wantsStandIn t = false by simpa using List.all_eq_true.1 hall t hm)

theorem pairs_card : Rows.ScalarsPairsCardSaid :=
  Claim7.holds_tied_plain_at .later [] _ _ _ _ pairs_said (fun _ h => by cases h) (by kernel_rfl) (fun _ h => by cases h) scalarsPairs_row_tie rfl ⟨rfl, rfl⟩ (by kernel_rfl) rfl pairs_plain (by kernel_rfl)
end Go.Proofs.YtdnelmbihblakabDoor
