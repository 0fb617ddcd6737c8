/- vellumtop.WholeValues answers true: the walk. -/
import Derived.Test.YtlmibpfikafbdabProg
import Derived.WalkKit
import Derived.Handy
import Derived.Deep.QuietTactic
import Derived.BigQuiet
import Derived.Stop.Asserts
import Derived.Deep.RegionHeld3
import Derived.Deep.DeepCutAuto
namespace Go.Proofs.Ytlmibpfikafbdab
open Go Go.RowKit
set_option linter.unusedVariables false

abbrev pl (k n : Int) (t : ByteArray) : Value := .agg #[.int .i64 k, .int .i64 n, .string t]
theorem lt_of_cell {w : World} {a : Addr} {v : Value} (h : w.cell? a = some v) : a.block < w.heap.size := by
  rcases Nat.lt_or_ge a.block w.heap.size with h' | h'
  · exact h'
  · simp [World.cell?, Array.getElem?_eq_none h'] at h
theorem from_below {f : FuncId} {args : Array Value} {X : Ending → World → Prop} {w W : World} (hb : Below w.heap.size w W) (c : Calls Try.prog f args W fun e w' => X e w' ∧ Below W.heap.size W w') :
    Calls Try.prog f args W fun e w' => X e w' ∧ Below w.heap.size w w' :=
  c.mono fun e w' ⟨h, k⟩ => ⟨h, hb.trans (k.mono hb.size)⟩

theorem kind_n (w : World) : Calls Try.prog 20 #[.agg #[]] w fun e w' => e = .returned (.int .i64 0) ∧ Below w.heap.size w w' := by
  go_enter Try.func20, Try.ntmps20
  go_wp2
  go_ret
  exact ⟨rfl, (Below.refl _ _).alloc (Nat.le_refl _) _⟩
theorem kind_f (b : Bool) (w : World) : Calls Try.prog 22 #[.bool b] w fun e w' => e = .returned (.int .i64 1) ∧ Below w.heap.size w w' := by
  go_enter Try.func22, Try.ntmps22
  go_wp2
  go_ret
  exact ⟨rfl, Below.refl _ _⟩
theorem kind_d (n : Int) (w : World) : Calls Try.prog 24 #[.int .i64 n] w fun e w' => e = .returned (.int .i64 2) ∧ Below w.heap.size w w' := by
  go_enter Try.func24, Try.ntmps24
  go_wp2
  go_ret
  exact ⟨rfl, Below.refl _ _⟩
theorem kind_t (t : ByteArray) (w : World) : Calls Try.prog 26 #[.string t] w fun e w' => e = .returned (.int .i64 3) ∧ Below w.heap.size w w' := by
  go_enter Try.func26, Try.ntmps26
  go_wp2
  go_ret
  exact ⟨rfl, Below.refl _ _⟩
theorem plain_n (w : World) : Calls Try.prog 21 #[.agg #[]] w fun e w' => e = .returned (pl 0 0 ⟨#[]⟩) ∧ Below w.heap.size w w' := by
  go_enter Try.func21, Try.ntmps21
  go_wp2
  exact bodyPost_ret (v := pl 0 0 ⟨#[]⟩) (by simp [results, Try.results21, go_sem]) rfl ⟨rfl, by go_grown⟩
theorem plain_f (b : Bool) (w : World) : Calls Try.prog 23 #[.bool b] w fun e w' => e = .returned (pl 1 (if b then 1 else 0) ⟨#[]⟩) ∧ Below w.heap.size w w' := by
  cases b
  · go_enter Try.func23, Try.ntmps23
    go_wp2
    exact bodyPost_ret (v := pl 1 0 ⟨#[]⟩) (by simp [results, Try.results23, go_sem]) rfl ⟨rfl, by go_grown⟩
  · go_enter Try.func23, Try.ntmps23
    go_wp2
    exact bodyPost_ret (v := pl 1 1 ⟨#[]⟩) (by simp [results, Try.results23, go_sem]) rfl ⟨rfl, by go_grown⟩
theorem plain_d (n : Int) (w : World) : Calls Try.prog 25 #[.int .i64 n] w fun e w' => e = .returned (pl 2 n ⟨#[]⟩) ∧ Below w.heap.size w w' := by
  go_enter Try.func25, Try.ntmps25
  go_wp2
  exact bodyPost_ret (v := pl 2 n ⟨#[]⟩) (by simp [results, Try.results25, go_sem]) rfl ⟨rfl, by go_grown⟩
theorem plain_t (t : ByteArray) (w : World) : Calls Try.prog 27 #[.string t] w fun e w' => e = .returned (pl 3 0 t) ∧ Below w.heap.size w w' := by
  go_enter Try.func27, Try.ntmps27
  go_wp2
  exact bodyPost_ret (v := pl 3 0 t) (by simp [results, Try.results27, go_sem]) rfl ⟨rfl, by go_grown⟩

theorem compNull : (Try.prog.info? 23).map (·.comparable) = some true := by kernel_rfl
theorem compFlag : (Try.prog.info? 24).map (·.comparable) = some true := by kernel_rfl
theorem compNum : (Try.prog.info? 25).map (·.comparable) = some true := by kernel_rfl
theorem compText : (Try.prog.info? 26).map (·.comparable) = some true := by kernel_rfl

theorem eql_same_type {tx : TypeId} {vx vy : Value} {b : Bool} (w : World) (hc : (Try.prog.info? tx).map (·.comparable) = some true)
    (h : ∀ d : Nat, (Op.equalIn (d + 1) tx vx vy).run Try.prog w = .ok b w) : (binOp .eql 32 (.iface tx vx) (.iface tx vy)).run Try.prog w = .ok (.bool b) w := by
  cases hi : Try.prog.info? tx with
  | none => simp [hi] at hc
  | some i =>
    have hcc : i.comparable = true := by simpa [hi] using hc
    have h2 : ∀ d : Nat, (Op.equalIn (d + 2) 32 (.iface tx vx) (.iface tx vy)).run Try.prog w = .ok b w := fun d => by
      rw [Op.equalIn]
      simp [run_underlying Try.underlying32, typeInfo, hi, hcc, h d]
    simp only [binOp]
    simp [Op.equal, Op.maxDepth, h2 9998]

theorem eql_null (w : World) : (binOp .eql 32 (.iface 23 (.agg #[])) (.iface 23 (.agg #[]))).run Try.prog w = .ok (.bool true) w :=
  eql_same_type w compNull fun d => by
    rw [run_equalIn_agg w d 23 _ _ (by kernel_rfl) (by kernel_rfl)]
    simp [Program.fieldsOf, Try.underlying23, Op.eqFields]
theorem eql_flag (a b : Bool) (w : World) : (binOp .eql 32 (.iface 24 (.bool a)) (.iface 24 (.bool b))).run Try.prog w = .ok (.bool (a == b)) w :=
  eql_same_type w compFlag fun d => run_equalIn_bool' w d _ a b Try.underlying24
theorem eql_num (a b : Int) (w : World) : (binOp .eql 32 (.iface 25 (.int .i64 a)) (.iface 25 (.int .i64 b))).run Try.prog w = .ok (.bool (a == b)) w :=
  eql_same_type w compNum fun d => run_equalIn_int w d _ .i64 .i64 a b Try.underlying25
theorem eql_text (a b : ByteArray) (w : World) : (binOp .eql 32 (.iface 26 (.string a)) (.iface 26 (.string b))).run Try.prog w = .ok (.bool (a.toList == b.toList)) w :=
  eql_same_type w compText fun d => run_equalIn_string w d _ a b Try.underlying26
theorem eql_types {tx ty : TypeId} (vx vy : Value) (h : tx ≠ ty) (w : World) : (binOp .eql 32 (.iface tx vx) (.iface ty vy)).run Try.prog w = .ok (.bool false) w :=
  run_eql_iface_types tx ty vx vy Try.underlying32 h w

/-! The eight values. -/
def tyL : List TypeId := [23, 24, 24, 25, 25, 25, 26, 26]
def vaL : List Value := [.agg #[], .bool false, .bool true, .int .i64 0, .int .i64 1, .int .i64 (-5), .string ⟨#[]⟩, .string ⟨#[97]⟩]
def kdL : List Int := [0, 1, 1, 2, 2, 2, 3, 3]
def nmL : List Int := [0, 0, 1, 0, 1, -5, 0, 0]
def txL : List ByteArray := [⟨#[]⟩, ⟨#[]⟩, ⟨#[]⟩, ⟨#[]⟩, ⟨#[]⟩, ⟨#[]⟩, ⟨#[]⟩, ⟨#[97]⟩]
def tyV (i : Nat) : TypeId := tyL.getD i 0
def vaV (i : Nat) : Value := vaL.getD i undef
def kdV (i : Nat) : Int := kdL.getD i 0
def nmV (i : Nat) : Int := nmL.getD i 0
def txV (i : Nat) : ByteArray := txL.getD i ⟨#[]⟩

theorem eql_all (i j : Nat) (hi : i < 8) (hj : j < 8) (w : World) : (binOp .eql 32 (.iface (tyV i) (vaV i)) (.iface (tyV j) (vaV j))).run Try.prog w = .ok (.bool (decide (i = j))) w := by
  match i, hi with
  | 0, _ =>
    match j, hj with
    | 0, _ => exact eql_null w
    | 1, _ => exact eql_types _ _ (by decide) w
    | 2, _ => exact eql_types _ _ (by decide) w
    | 3, _ => exact eql_types _ _ (by decide) w
    | 4, _ => exact eql_types _ _ (by decide) w
    | 5, _ => exact eql_types _ _ (by decide) w
    | 6, _ => exact eql_types _ _ (by decide) w
    | 7, _ => exact eql_types _ _ (by decide) w
  | 1, _ =>
    match j, hj with
    | 0, _ => exact eql_types _ _ (by decide) w
    | 1, _ => exact eql_flag _ _ w
    | 2, _ => exact eql_flag _ _ w
    | 3, _ => exact eql_types _ _ (by decide) w
    | 4, _ => exact eql_types _ _ (by decide) w
    | 5, _ => exact eql_types _ _ (by decide) w
    | 6, _ => exact eql_types _ _ (by decide) w
    | 7, _ => exact eql_types _ _ (by decide) w
  | 2, _ =>
    match j, hj with
    | 0, _ => exact eql_types _ _ (by decide) w
    | 1, _ => exact eql_flag _ _ w
    | 2, _ => exact eql_flag _ _ w
    | 3, _ => exact eql_types _ _ (by decide) w
    | 4, _ => exact eql_types _ _ (by decide) w
    | 5, _ => exact eql_types _ _ (by decide) w
    | 6, _ => exact eql_types _ _ (by decide) w
    | 7, _ => exact eql_types _ _ (by decide) w
  | 3, _ =>
    match j, hj with
    | 0, _ => exact eql_types _ _ (by decide) w
    | 1, _ => exact eql_types _ _ (by decide) w
    | 2, _ => exact eql_types _ _ (by decide) w
    | 3, _ => exact eql_num _ _ w
    | 4, _ => exact eql_num _ _ w
    | 5, _ => exact eql_num _ _ w
    | 6, _ => exact eql_types _ _ (by decide) w
    | 7, _ => exact eql_types _ _ (by decide) w
  | 4, _ =>
    match j, hj with
    | 0, _ => exact eql_types _ _ (by decide) w
    | 1, _ => exact eql_types _ _ (by decide) w
    | 2, _ => exact eql_types _ _ (by decide) w
    | 3, _ => exact eql_num _ _ w
    | 4, _ => exact eql_num _ _ w
    | 5, _ => exact eql_num _ _ w
    | 6, _ => exact eql_types _ _ (by decide) w
    | 7, _ => exact eql_types _ _ (by decide) w
  | 5, _ =>
    match j, hj with
    | 0, _ => exact eql_types _ _ (by decide) w
    | 1, _ => exact eql_types _ _ (by decide) w
    | 2, _ => exact eql_types _ _ (by decide) w
    | 3, _ => exact eql_num _ _ w
    | 4, _ => exact eql_num _ _ w
    | 5, _ => exact eql_num _ _ w
    | 6, _ => exact eql_types _ _ (by decide) w
    | 7, _ => exact eql_types _ _ (by decide) w
  | 6, _ =>
    match j, hj with
    | 0, _ => exact eql_types _ _ (by decide) w
    | 1, _ => exact eql_types _ _ (by decide) w
    | 2, _ => exact eql_types _ _ (by decide) w
    | 3, _ => exact eql_types _ _ (by decide) w
    | 4, _ => exact eql_types _ _ (by decide) w
    | 5, _ => exact eql_types _ _ (by decide) w
    | 6, _ => (rw [show (binOp .eql 32 (.iface (tyV 6) (vaV 6)) (.iface (tyV 6) (vaV 6))).run Try.prog w = _ from eql_text _ _ w]; simp [ByteArray.toList_eq])
    | 7, _ => (rw [show (binOp .eql 32 (.iface (tyV 6) (vaV 6)) (.iface (tyV 7) (vaV 7))).run Try.prog w = _ from eql_text _ _ w]; simp [ByteArray.toList_eq])
  | 7, _ =>
    match j, hj with
    | 0, _ => exact eql_types _ _ (by decide) w
    | 1, _ => exact eql_types _ _ (by decide) w
    | 2, _ => exact eql_types _ _ (by decide) w
    | 3, _ => exact eql_types _ _ (by decide) w
    | 4, _ => exact eql_types _ _ (by decide) w
    | 5, _ => exact eql_types _ _ (by decide) w
    | 6, _ => (rw [show (binOp .eql 32 (.iface (tyV 7) (vaV 7)) (.iface (tyV 6) (vaV 6))).run Try.prog w = _ from eql_text _ _ w]; simp [ByteArray.toList_eq])
    | 7, _ => (rw [show (binOp .eql 32 (.iface (tyV 7) (vaV 7)) (.iface (tyV 7) (vaV 7))).run Try.prog w = _ from eql_text _ _ w]; simp [ByteArray.toList_eq])

set_option maxHeartbeats 8000000 in
set_option maxRecDepth 100000 in
theorem values_walk (w : World) : Calls Try.prog 3 #[] w fun e w' => e = .returned (.bool true) ∧ Below w.heap.size w w' := by
  go_enter Try.func3, Try.ntmps3
  go_wp2_with fail
  obtain ⟨N, hN⟩ : ∃ N, w.heap.size = N := ⟨_, rfl⟩
  obtain ⟨W1, hW1⟩ : ∃ W1, W1 = w.alloc (.cells #[.iface 23 (.agg #[]), .iface 24 (.bool false), .iface 24 (.bool true), .iface 25 (.int .i64 0), .iface 25 (.int .i64 1), .iface 25 (.int .i64 (-5)), .iface 26 (.string ⟨#[]⟩), .iface 26 (.string ⟨#[97]⟩)] 32) := ⟨_, rfl⟩
  rw [← hW1]
  obtain ⟨W0, hW0⟩ : ∃ W0, W0 = W1.alloc (.cells #[.int .i64 0, .int .i64 0, .string ⟨#[]⟩, .int .i64 1, .int .i64 0, .string ⟨#[]⟩, .int .i64 1, .int .i64 1, .string ⟨#[]⟩, .int .i64 2, .int .i64 0, .string ⟨#[]⟩, .int .i64 2, .int .i64 1, .string ⟨#[]⟩, .int .i64 2, .int .i64 (-5), .string ⟨#[]⟩, .int .i64 3, .int .i64 0, .string ⟨#[]⟩, .int .i64 3, .int .i64 0, .string ⟨#[97]⟩] 29) := ⟨_, rfl⟩
  rw [← hW0]
  have hbW : Below w.heap.size w W0 := by rw [hW0, hW1]; exact ((Below.refl _ _).alloc (Nat.le_refl _) _).alloc (by simp) _
  have hz1 : W1.heap.size = N + 1 := by rw [hW1, ← hN]; simp
  have HL : Hid (∀ j, j < 8 → W0.cell? ⟨N, j, none⟩ = some (.iface (tyV j) (vaV j))) := by
    intro j hj
    rw [hW0, World.cell?_alloc_past _ _ _ (by rw [hz1]; simp), hW1, World.cell?_alloc_at _ _ _ _ (by rw [hN])]
    match j, hj with
    | 0, _ => rfl
    | 1, _ => rfl
    | 2, _ => rfl
    | 3, _ => rfl
    | 4, _ => rfl
    | 5, _ => rfl
    | 6, _ => rfl
    | 7, _ => rfl
  have HP : Hid (∀ j, j < 24 → W0.cell? ⟨N + 1, j, none⟩ = ([Value.int .i64 0, .int .i64 0, .string ⟨#[]⟩, .int .i64 1, .int .i64 0, .string ⟨#[]⟩, .int .i64 1, .int .i64 1, .string ⟨#[]⟩, .int .i64 2, .int .i64 0, .string ⟨#[]⟩, .int .i64 2, .int .i64 1, .string ⟨#[]⟩, .int .i64 2, .int .i64 (-5), .string ⟨#[]⟩, .int .i64 3, .int .i64 0, .string ⟨#[]⟩, .int .i64 3, .int .i64 0, .string ⟨#[97]⟩] : List Value)[j]?) := by
    intro j hj
    rw [hW0, World.cell?_alloc_at _ _ _ _ (by rw [hz1])]
    rw [← Array.getElem?_toList]
  rw [hN]
  clear hW0 hW1 hz1
  go_loopw [28] (fun i wr => ∃ k : Nat, k ≤ 8 ∧ i = .int .i64 k ∧ Below W0.heap.size W0 wr) (fun i _ => 8 - (RowKit.intOf i).toNat)
  case atStart => exact ⟨0, by omega, rfl, Below.refl _ _⟩
  case round =>
    obtain ⟨k, hk, rfl, hbw⟩ := hrel
    by_cases hlt : k < 8
    · have hltI : (k : Int) < 8 := by omega
      have c0 := HL.out k hlt
      have c1 : wr.cell? ⟨N, k, none⟩ = _ := (hbw.cell (lt_of_cell c0)).trans c0
      clear c0
      go_upto_region 6 with fail
      go_cut [3, 4, 28, 53] (fun s3 s4 s28 v wc => s3 = .int .i64 k ∧ s4 = .iface (tyV k) (vaV k) ∧ s28 = .int .i64 k ∧ v = .bool false ∧ Below W0.heap.size W0 wc)
      case first =>
        have hk8 : k = 0 ∨ k = 1 ∨ k = 2 ∨ k = 3 ∨ k = 4 ∨ k = 5 ∨ k = 6 ∨ k = 7 := by omega
        clear HL c1 hltI
        rcases hk8 with rfl | rfl | rfl | rfl | rfl | rfl | rfl | rfl
        · have hcells : ∀ w', Below W0.heap.size W0 w' → (w'.cell? ⟨N + 1, 0, none⟩ = some (.int .i64 0) ∧ w'.cell? ⟨N + 1, 1, none⟩ = some (.int .i64 0) ∧ w'.cell? ⟨N + 1, 2, none⟩ = some (.string ⟨#[]⟩)) := fun w' hW =>
            ⟨by have := HP.out 0 (by omega); exact (hW.cell (lt_of_cell this)).trans this, by have := HP.out 1 (by omega); exact (hW.cell (lt_of_cell this)).trans this, by have := HP.out 2 (by omega); exact (hW.cell (lt_of_cell this)).trans this⟩
          obtain ⟨q0, q1, q2⟩ := hcells _ hbw
          rw [show Value.iface (tyV 0) (vaV 0) = .iface 23 (.agg #[]) from rfl]
          clear HP
          go_region_held3 (fun w' => (w'.cell? ⟨N + 1, 0, none⟩ = some (.int .i64 0) ∧ w'.cell? ⟨N + 1, 1, none⟩ = some (.int .i64 0) ∧ w'.cell? ⟨N + 1, 2, none⟩ = some (.string ⟨#[]⟩)) ∧ Below W0.heap.size W0 w')
            (exact ⟨by first | (with_reducible assumption) | (simp [*]; done), by first | (with_reducible assumption) | exact hbw.drew⟩)
            (first
              | (go_at_call 21; refine (from_below (w := W0) ?_ (plain_n _)).mono ?_; (· first | assumption | (apply And.right; assumption)); rintro r w5 ⟨rfl, b5⟩; have mm := hcells _ b5)
              | (go_at_call 20; refine (from_below (w := W0) ?_ (kind_n _)).mono ?_; (· first | assumption | (apply And.right; assumption)); rintro r w5 ⟨rfl, b5⟩; have mm := hcells _ b5))
          go_wp2
          go_meet
          case rel => exact ⟨rfl, rfl, rfl, rfl, by first | assumption | (apply And.right; assumption)⟩
        · have hcells : ∀ w', Below W0.heap.size W0 w' → (w'.cell? ⟨N + 1, 3, none⟩ = some (.int .i64 1) ∧ w'.cell? ⟨N + 1, 4, none⟩ = some (.int .i64 0) ∧ w'.cell? ⟨N + 1, 5, none⟩ = some (.string ⟨#[]⟩)) := fun w' hW =>
            ⟨by have := HP.out 3 (by omega); exact (hW.cell (lt_of_cell this)).trans this, by have := HP.out 4 (by omega); exact (hW.cell (lt_of_cell this)).trans this, by have := HP.out 5 (by omega); exact (hW.cell (lt_of_cell this)).trans this⟩
          obtain ⟨q0, q1, q2⟩ := hcells _ hbw
          rw [show Value.iface (tyV 1) (vaV 1) = .iface 24 (.bool false) from rfl]
          clear HP
          go_region_held3 (fun w' => (w'.cell? ⟨N + 1, 3, none⟩ = some (.int .i64 1) ∧ w'.cell? ⟨N + 1, 4, none⟩ = some (.int .i64 0) ∧ w'.cell? ⟨N + 1, 5, none⟩ = some (.string ⟨#[]⟩)) ∧ Below W0.heap.size W0 w')
            (exact ⟨by first | (with_reducible assumption) | (simp [*]; done), by first | (with_reducible assumption) | exact hbw.drew⟩)
            (first
              | (go_at_call 23; refine (from_below (w := W0) ?_ (plain_f _ _)).mono ?_; (· first | assumption | (apply And.right; assumption)); rintro r w5 ⟨rfl, b5⟩; have mm := hcells _ b5)
              | (go_at_call 22; refine (from_below (w := W0) ?_ (kind_f _ _)).mono ?_; (· first | assumption | (apply And.right; assumption)); rintro r w5 ⟨rfl, b5⟩; have mm := hcells _ b5))
          go_wp2
          go_meet
          case rel => exact ⟨rfl, rfl, rfl, rfl, by first | assumption | (apply And.right; assumption)⟩
        · have hcells : ∀ w', Below W0.heap.size W0 w' → (w'.cell? ⟨N + 1, 6, none⟩ = some (.int .i64 1) ∧ w'.cell? ⟨N + 1, 7, none⟩ = some (.int .i64 1) ∧ w'.cell? ⟨N + 1, 8, none⟩ = some (.string ⟨#[]⟩)) := fun w' hW =>
            ⟨by have := HP.out 6 (by omega); exact (hW.cell (lt_of_cell this)).trans this, by have := HP.out 7 (by omega); exact (hW.cell (lt_of_cell this)).trans this, by have := HP.out 8 (by omega); exact (hW.cell (lt_of_cell this)).trans this⟩
          obtain ⟨q0, q1, q2⟩ := hcells _ hbw
          rw [show Value.iface (tyV 2) (vaV 2) = .iface 24 (.bool true) from rfl]
          clear HP
          go_region_held3 (fun w' => (w'.cell? ⟨N + 1, 6, none⟩ = some (.int .i64 1) ∧ w'.cell? ⟨N + 1, 7, none⟩ = some (.int .i64 1) ∧ w'.cell? ⟨N + 1, 8, none⟩ = some (.string ⟨#[]⟩)) ∧ Below W0.heap.size W0 w')
            (exact ⟨by first | (with_reducible assumption) | (simp [*]; done), by first | (with_reducible assumption) | exact hbw.drew⟩)
            (first
              | (go_at_call 23; refine (from_below (w := W0) ?_ (plain_f _ _)).mono ?_; (· first | assumption | (apply And.right; assumption)); rintro r w5 ⟨rfl, b5⟩; have mm := hcells _ b5)
              | (go_at_call 22; refine (from_below (w := W0) ?_ (kind_f _ _)).mono ?_; (· first | assumption | (apply And.right; assumption)); rintro r w5 ⟨rfl, b5⟩; have mm := hcells _ b5))
          go_wp2
          go_meet
          case rel => exact ⟨rfl, rfl, rfl, rfl, by first | assumption | (apply And.right; assumption)⟩
        · have hcells : ∀ w', Below W0.heap.size W0 w' → (w'.cell? ⟨N + 1, 9, none⟩ = some (.int .i64 2) ∧ w'.cell? ⟨N + 1, 10, none⟩ = some (.int .i64 0) ∧ w'.cell? ⟨N + 1, 11, none⟩ = some (.string ⟨#[]⟩)) := fun w' hW =>
            ⟨by have := HP.out 9 (by omega); exact (hW.cell (lt_of_cell this)).trans this, by have := HP.out 10 (by omega); exact (hW.cell (lt_of_cell this)).trans this, by have := HP.out 11 (by omega); exact (hW.cell (lt_of_cell this)).trans this⟩
          obtain ⟨q0, q1, q2⟩ := hcells _ hbw
          rw [show Value.iface (tyV 3) (vaV 3) = .iface 25 (.int .i64 0) from rfl]
          clear HP
          go_region_held3 (fun w' => (w'.cell? ⟨N + 1, 9, none⟩ = some (.int .i64 2) ∧ w'.cell? ⟨N + 1, 10, none⟩ = some (.int .i64 0) ∧ w'.cell? ⟨N + 1, 11, none⟩ = some (.string ⟨#[]⟩)) ∧ Below W0.heap.size W0 w')
            (exact ⟨by first | (with_reducible assumption) | (simp [*]; done), by first | (with_reducible assumption) | exact hbw.drew⟩)
            (first
              | (go_at_call 25; refine (from_below (w := W0) ?_ (plain_d _ _)).mono ?_; (· first | assumption | (apply And.right; assumption)); rintro r w5 ⟨rfl, b5⟩; have mm := hcells _ b5)
              | (go_at_call 24; refine (from_below (w := W0) ?_ (kind_d _ _)).mono ?_; (· first | assumption | (apply And.right; assumption)); rintro r w5 ⟨rfl, b5⟩; have mm := hcells _ b5))
          go_wp2
          go_meet
          case rel => exact ⟨rfl, rfl, rfl, rfl, by first | assumption | (apply And.right; assumption)⟩
        · have hcells : ∀ w', Below W0.heap.size W0 w' → (w'.cell? ⟨N + 1, 12, none⟩ = some (.int .i64 2) ∧ w'.cell? ⟨N + 1, 13, none⟩ = some (.int .i64 1) ∧ w'.cell? ⟨N + 1, 14, none⟩ = some (.string ⟨#[]⟩)) := fun w' hW =>
            ⟨by have := HP.out 12 (by omega); exact (hW.cell (lt_of_cell this)).trans this, by have := HP.out 13 (by omega); exact (hW.cell (lt_of_cell this)).trans this, by have := HP.out 14 (by omega); exact (hW.cell (lt_of_cell this)).trans this⟩
          obtain ⟨q0, q1, q2⟩ := hcells _ hbw
          rw [show Value.iface (tyV 4) (vaV 4) = .iface 25 (.int .i64 1) from rfl]
          clear HP
          go_region_held3 (fun w' => (w'.cell? ⟨N + 1, 12, none⟩ = some (.int .i64 2) ∧ w'.cell? ⟨N + 1, 13, none⟩ = some (.int .i64 1) ∧ w'.cell? ⟨N + 1, 14, none⟩ = some (.string ⟨#[]⟩)) ∧ Below W0.heap.size W0 w')
            (exact ⟨by first | (with_reducible assumption) | (simp [*]; done), by first | (with_reducible assumption) | exact hbw.drew⟩)
            (first
              | (go_at_call 25; refine (from_below (w := W0) ?_ (plain_d _ _)).mono ?_; (· first | assumption | (apply And.right; assumption)); rintro r w5 ⟨rfl, b5⟩; have mm := hcells _ b5)
              | (go_at_call 24; refine (from_below (w := W0) ?_ (kind_d _ _)).mono ?_; (· first | assumption | (apply And.right; assumption)); rintro r w5 ⟨rfl, b5⟩; have mm := hcells _ b5))
          go_wp2
          go_meet
          case rel => exact ⟨rfl, rfl, rfl, rfl, by first | assumption | (apply And.right; assumption)⟩
        · have hcells : ∀ w', Below W0.heap.size W0 w' → (w'.cell? ⟨N + 1, 15, none⟩ = some (.int .i64 2) ∧ w'.cell? ⟨N + 1, 16, none⟩ = some (.int .i64 (-5)) ∧ w'.cell? ⟨N + 1, 17, none⟩ = some (.string ⟨#[]⟩)) := fun w' hW =>
            ⟨by have := HP.out 15 (by omega); exact (hW.cell (lt_of_cell this)).trans this, by have := HP.out 16 (by omega); exact (hW.cell (lt_of_cell this)).trans this, by have := HP.out 17 (by omega); exact (hW.cell (lt_of_cell this)).trans this⟩
          obtain ⟨q0, q1, q2⟩ := hcells _ hbw
          rw [show Value.iface (tyV 5) (vaV 5) = .iface 25 (.int .i64 (-5)) from rfl]
          clear HP
          go_region_held3 (fun w' => (w'.cell? ⟨N + 1, 15, none⟩ = some (.int .i64 2) ∧ w'.cell? ⟨N + 1, 16, none⟩ = some (.int .i64 (-5)) ∧ w'.cell? ⟨N + 1, 17, none⟩ = some (.string ⟨#[]⟩)) ∧ Below W0.heap.size W0 w')
            (exact ⟨by first | (with_reducible assumption) | (simp [*]; done), by first | (with_reducible assumption) | exact hbw.drew⟩)
            (first
              | (go_at_call 25; refine (from_below (w := W0) ?_ (plain_d _ _)).mono ?_; (· first | assumption | (apply And.right; assumption)); rintro r w5 ⟨rfl, b5⟩; have mm := hcells _ b5)
              | (go_at_call 24; refine (from_below (w := W0) ?_ (kind_d _ _)).mono ?_; (· first | assumption | (apply And.right; assumption)); rintro r w5 ⟨rfl, b5⟩; have mm := hcells _ b5))
          go_wp2
          go_meet
          case rel => exact ⟨rfl, rfl, rfl, rfl, by first | assumption | (apply And.right; assumption)⟩
        · have hcells : ∀ w', Below W0.heap.size W0 w' → (w'.cell? ⟨N + 1, 18, none⟩ = some (.int .i64 3) ∧ w'.cell? ⟨N + 1, 19, none⟩ = some (.int .i64 0) ∧ w'.cell? ⟨N + 1, 20, none⟩ = some (.string ⟨#[]⟩)) := fun w' hW =>
            ⟨by have := HP.out 18 (by omega); exact (hW.cell (lt_of_cell this)).trans this, by have := HP.out 19 (by omega); exact (hW.cell (lt_of_cell this)).trans this, by have := HP.out 20 (by omega); exact (hW.cell (lt_of_cell this)).trans this⟩
          obtain ⟨q0, q1, q2⟩ := hcells _ hbw
          rw [show Value.iface (tyV 6) (vaV 6) = .iface 26 (.string ⟨#[]⟩) from rfl]
          clear HP
          go_region_held3 (fun w' => (w'.cell? ⟨N + 1, 18, none⟩ = some (.int .i64 3) ∧ w'.cell? ⟨N + 1, 19, none⟩ = some (.int .i64 0) ∧ w'.cell? ⟨N + 1, 20, none⟩ = some (.string ⟨#[]⟩)) ∧ Below W0.heap.size W0 w')
            (exact ⟨by first | (with_reducible assumption) | (simp [*]; done), by first | (with_reducible assumption) | exact hbw.drew⟩)
            (first
              | (go_at_call 27; refine (from_below (w := W0) ?_ (plain_t _ _)).mono ?_; (· first | assumption | (apply And.right; assumption)); rintro r w5 ⟨rfl, b5⟩; have mm := hcells _ b5)
              | (go_at_call 26; refine (from_below (w := W0) ?_ (kind_t _ _)).mono ?_; (· first | assumption | (apply And.right; assumption)); rintro r w5 ⟨rfl, b5⟩; have mm := hcells _ b5))
          go_wp2
          go_meet
          case rel => exact ⟨rfl, rfl, rfl, rfl, by first | assumption | (apply And.right; assumption)⟩
        · have hcells : ∀ w', Below W0.heap.size W0 w' → (w'.cell? ⟨N + 1, 21, none⟩ = some (.int .i64 3) ∧ w'.cell? ⟨N + 1, 22, none⟩ = some (.int .i64 0) ∧ w'.cell? ⟨N + 1, 23, none⟩ = some (.string ⟨#[97]⟩)) := fun w' hW =>
            ⟨by have := HP.out 21 (by omega); exact (hW.cell (lt_of_cell this)).trans this, by have := HP.out 22 (by omega); exact (hW.cell (lt_of_cell this)).trans this, by have := HP.out 23 (by omega); exact (hW.cell (lt_of_cell this)).trans this⟩
          obtain ⟨q0, q1, q2⟩ := hcells _ hbw
          rw [show Value.iface (tyV 7) (vaV 7) = .iface 26 (.string ⟨#[97]⟩) from rfl]
          clear HP
          go_region_held3 (fun w' => (w'.cell? ⟨N + 1, 21, none⟩ = some (.int .i64 3) ∧ w'.cell? ⟨N + 1, 22, none⟩ = some (.int .i64 0) ∧ w'.cell? ⟨N + 1, 23, none⟩ = some (.string ⟨#[97]⟩)) ∧ Below W0.heap.size W0 w')
            (exact ⟨by first | (with_reducible assumption) | (simp [*]; done), by first | (with_reducible assumption) | exact hbw.drew⟩)
            (first
              | (go_at_call 27; refine (from_below (w := W0) ?_ (plain_t _ _)).mono ?_; (· first | assumption | (apply And.right; assumption)); rintro r w5 ⟨rfl, b5⟩; have mm := hcells _ b5)
              | (go_at_call 26; refine (from_below (w := W0) ?_ (kind_t _ _)).mono ?_; (· first | assumption | (apply And.right; assumption)); rintro r w5 ⟨rfl, b5⟩; have mm := hcells _ b5))
          go_wp2
          go_meet
          case rel => exact ⟨rfl, rfl, rfl, rfl, by first | assumption | (apply And.right; assumption)⟩
      case rest =>
        obtain ⟨rfl, rfl, rfl, rfl, b4⟩ := hcut
        clear hbw c1
        have heq := fun j (hj : j < 8) => eql_all k j hlt hj
        go_wp2
        go_loop [56] (fun j => ∃ m : Nat, m ≤ 8 ∧ j = .int .i64 m) (fun j => 8 - (RowKit.intOf j).toNat)
        case atStart => exact ⟨0, by omega, rfl⟩
        case round =>
          obtain ⟨m, hm, rfl⟩ := hrel
          by_cases hlm : m < 8
          · have hlmI : (m : Int) < 8 := by omega
            have d0 := HL.out m hlm
            have d1 : wc.cell? ⟨N, m, none⟩ = _ := (b4.cell (lt_of_cell d0)).trans d0
            have e1 := heq m hlm
            clear d0
            by_cases hkm : k = m
            · subst hkm
              have e2 : ((k : Int) == (k : Int)) = true := by simp
              simp only [decide_true] at e1
              clear heq
              go_wp2
              go_round
              case rel => exact ⟨k + 1, by omega, by go_num⟩
              case measure => simp [RowKit.intOf]; omega
            · have e2 : ((k : Int) == (m : Int)) = false := by simp; omega
              rw [decide_eq_false hkm] at e1
              clear heq hkm
              go_wp2
              go_round
              case rel => exact ⟨m + 1, by omega, by go_num⟩
              case measure => simp [RowKit.intOf]; omega
          · have hlmI : ¬ (m : Int) < 8 := by omega
            clear heq
            go_wp2
            go_roundw
            case rel => exact ⟨k + 1, by omega, by go_num, b4⟩
            case measure => simp [RowKit.intOf]; omega
    · have hkn : k = 8 := by omega
      subst hkn
      go_wp2
      go_ret
      exact ⟨rfl, hbW.trans (hbw.mono hbW.size)⟩
end Go.Proofs.Ytlmibpfikafbdab
