/- The order of Plains: a total order. What the reference of layer 2 answers: text, Check, Compare. utf8.ValidString at this program: whether a text breaks nowhere. What the reference of layer 3 says of pairs and lists: its numbers are the code's. What vellumref04.Refuse and Check answer: what an insert is refused with. What content.Cut answers. What content.Cut answers of a text that can be cut. What content.Join answers. content.textCells: the cells of a text. What the values' methods answer: Kind, Plain; how values of the interface compare. What content.Cells and content.Newlines answer. vellumlaw04.lives. Joins of inserts, purely; Join at all operations. What vellumref04.copied and vellumref04.Join answer. What vellumref04.Length answers of inserts. What vellumref04.Length, Cells and Newlines answer of inserts. What vellumref04.Cells answers of embeds, and vellumref04.Newlines. ops.Same and the document's Same: two lists, one by one. ops: lengths of pieces, their sums; ops.Lengths. The document's deltas: Same, SameOp, Insert, Len. Operations as new memory: appends of rows of operations; vellumlaw05.copied. ops: what a piece bears; plain retains; what may follow what. A builder in memory: what stands while it is written; the strings.Builder that it bears. ops.Canonical. -/
import Derived.Test.YtfllomfjhkgaoaaGreatDoorVs
import Derived.Test.YtfllomfjhkgaoaaGreatDoorMga
import Derived.Shelf.Unicode.ValidAny
import Derived.Test.YtfllomfjhkgaoaaGreatDoorSc
import Derived.Test.YtfllomfjhkgaoaaGreatDoorUtf
import Derived.Test.YtfllomfjhkgaoaaGreatDoorPc
import Derived.Test.YtfllomfjhkgaoaaGreatDoorSw
import Derived.Test.YtfllomfjhkgaoaaGreatDoorCq
import Derived.BigRegion
import Derived.Deep.RegionHeld3
import Derived.Deep.DeepCutAuto
import Derived.Test.YtfllomfjhkgaoaaGreatDoorCe
import Derived.Laws.MakeOwn
import Derived.Test.YtfllomfjhkgaoaaGreatDoorVf
import Derived.Test.YtfllomfjhkgaoaaGreatDoorCf
import Derived.Test.YtfllomfjhkgaoaaGreatDoorQd
import Derived.Stop.Asserts
import Derived.Test.YtfllomfjhkgaoaaGreatDoorSm
import Derived.Lib.FrozenHead2
import Derived.Lib.UnsafeStr
import Derived.Lib.OthersKept

/- The order of Plains: a total order. -/
namespace Go.Proofs.YtfllomfjhkgaoaaGreatDoor
open Go Go.RowKit Go.Lib
set_option linter.unusedVariables false

theorem ci_cases (x y : Int) : (x < y ∧ compareInt x y = -1) ∨ (x = y ∧ compareInt x y = 0) ∨ (y < x ∧ compareInt x y = 1) := by
  unfold compareInt
  by_cases h : x < y
  · left; simp [h]
  · by_cases h2 : x > y
    · right; right; simp [h, h2]
    · right; left
      refine ⟨by omega, by simp [h, h2]⟩
theorem cmp_range (k n : Int) (t : ByteArray) (k' n' : Int) (t' : ByteArray) : -1 ≤ cmpP k n t k' n' t' ∧ cmpP k n t k' n' t' ≤ 1 := by
  unfold cmpP orZ
  have h3 := cb_range t.data.toList t'.data.toList
  rcases ci_cases k k' with ⟨_, h1⟩ | ⟨_, h1⟩ | ⟨_, h1⟩ <;> rw [h1] <;> simp
  rcases ci_cases n n' with ⟨_, h2⟩ | ⟨_, h2⟩ | ⟨_, h2⟩ <;> rw [h2] <;> simp
  omega
theorem cmp_swap (k n : Int) (t : ByteArray) (k' n' : Int) (t' : ByteArray) : cmpP k' n' t' k n t = - cmpP k n t k' n' t' := by
  unfold cmpP orZ
  rcases ci_cases k k' with ⟨a1, h1⟩ | ⟨a1, h1⟩ | ⟨a1, h1⟩ <;> rcases ci_cases k' k with ⟨a2, h2⟩ | ⟨a2, h2⟩ | ⟨a2, h2⟩ <;> rw [h1, h2] <;> simp <;> (try omega)
  rcases ci_cases n n' with ⟨b1, g1⟩ | ⟨b1, g1⟩ | ⟨b1, g1⟩ <;> rcases ci_cases n' n with ⟨b2, g2⟩ | ⟨b2, g2⟩ | ⟨b2, g2⟩ <;> rw [g1, g2] <;> simp <;> (try omega)
  exact cb_swap _ _
theorem cmp_zero (k n : Int) (t : ByteArray) (k' n' : Int) (t' : ByteArray) : cmpP k n t k' n' t' = 0 ↔ samB k n t k' n' t' = true := by
  rw [samB_iff]
  unfold cmpP orZ
  rcases ci_cases k k' with ⟨a1, h1⟩ | ⟨a1, h1⟩ | ⟨a1, h1⟩ <;> rw [h1] <;> simp
  · omega
  · rcases ci_cases n n' with ⟨b1, g1⟩ | ⟨b1, g1⟩ | ⟨b1, g1⟩ <;> rw [g1] <;> simp
    · omega
    · rw [cb_zero]
      constructor
      · intro h; exact ⟨a1, b1, ByteArray.ext (Array.ext' h)⟩
      · rintro ⟨_, _, rfl⟩; rfl
    · omega
  · omega
theorem cmp_trans (k n : Int) (t : ByteArray) (k' n' : Int) (t' : ByteArray) (k2 n2 : Int) (t2 : ByteArray) (h1 : cmpP k n t k' n' t' ≤ 0) (h2 : cmpP k' n' t' k2 n2 t2 ≤ 0) :
    cmpP k n t k2 n2 t2 ≤ 0 ∧ (cmpP k n t k' n' t' < 0 → cmpP k n t k2 n2 t2 < 0) := by
  unfold cmpP orZ at *
  rcases ci_cases k k' with ⟨a1, e1⟩ | ⟨a1, e1⟩ | ⟨a1, e1⟩ <;> rw [e1] at h1 ⊢ <;>
  rcases ci_cases k' k2 with ⟨a2, e2⟩ | ⟨a2, e2⟩ | ⟨a2, e2⟩ <;> rw [e2] at h2 <;>
  rcases ci_cases k k2 with ⟨a3, e3⟩ | ⟨a3, e3⟩ | ⟨a3, e3⟩ <;> rw [e3] <;> simp at h1 h2 ⊢ <;> (try omega)
  rcases ci_cases n n' with ⟨b1, g1⟩ | ⟨b1, g1⟩ | ⟨b1, g1⟩ <;> rw [g1] at h1 ⊢ <;>
  rcases ci_cases n' n2 with ⟨b2, g2⟩ | ⟨b2, g2⟩ | ⟨b2, g2⟩ <;> rw [g2] at h2 <;>
  rcases ci_cases n n2 with ⟨b3, g3⟩ | ⟨b3, g3⟩ | ⟨b3, g3⟩ <;> rw [g3] <;> simp at h1 h2 ⊢ <;> (try omega)
  have := cb_trans _ _ _ h1 h2
  exact ⟨this.1, this.2.1⟩
theorem cmp_num {k n n' : Int} : cmpP k n ⟨#[]⟩ k n' ⟨#[]⟩ = compareInt n n' := by
  unfold cmpP orZ
  rcases ci_cases k k with ⟨a1, h1⟩ | ⟨a1, h1⟩ | ⟨a1, h1⟩
  · omega
  · rw [h1]; simp
    intro h
    rw [h, cb_zero]
  · omega
theorem cmp_text {t t' : ByteArray} : cmpP 3 0 t 3 0 t' = compareBytes t.data.toList t'.data.toList := by
  unfold cmpP orZ
  rcases ci_cases 3 3 with ⟨a1, h1⟩ | ⟨a1, h1⟩ | ⟨a1, h1⟩
  · omega
  · rcases ci_cases 0 0 with ⟨a2, h2⟩ | ⟨a2, h2⟩ | ⟨a2, h2⟩
    · omega
    · rw [h1, h2]; simp
    · omega
  · omega

end Go.Proofs.YtfllomfjhkgaoaaGreatDoor

/- What the reference of layer 2 answers: text, Check, Compare. -/
namespace Go.Proofs.YtfllomfjhkgaoaaGreatDoor
open Go Go.RowKit Go.Lib
set_option linter.unusedVariables false

theorem ref_utf8 (s : ByteArray) (w : World) (hs : s.size ≤ 35184372087808) (b : Bool) (hb : decide (brk s.data.toList = s.size) = b) :
    Calls Tryz.prog 78 #[.string s] w fun e w' => e = .returned (.bool b) ∧ Below w.heap.size w w' := by
  have c := ref_breaks s w hs
  obtain ⟨B, hB⟩ : ∃ B, brk s.data.toList = B := ⟨_, rfl⟩
  rw [hB] at c hb
  have e : ((B : Int) == (s.size : Int)) = b := by
    rw [← hb, Bool.eq_iff_iff]; simp; omega
  clear hB hb
  go_enter Tryz.func78, Tryz.ntmps78
  go_wp2_with (go_at_call 89; refine c.mono ?_; rintro r w2 ⟨rfl, hb2⟩)
  go_ret
  exact ⟨rfl, hb2⟩

theorem ref_txt (t : ByteArray) (w : World) (hs : t.size ≤ 35184372087808) :
    Calls Tryz.prog 84 #[.string t] w fun e w' => e = .returned (.int .i64 (txtE t)) ∧ Below w.heap.size w w' := by
  rcases txtE_cases t with ⟨he, hv, hl⟩ | ⟨he, hv, hl⟩ | ⟨he, hv⟩
  all_goals rw [he]
  · have c := ref_utf8 t w hs true (by simpa using hv)
    have hl' : (t.size : Int) ≤ 1048576 := by omega
    clear hv he
    go_enter Tryz.func84, Tryz.ntmps84
    go_wp2_with (go_at_call 78; refine c.mono ?_; rintro r w2 ⟨rfl, hb2⟩)
    go_ret
    exact ⟨rfl, hb2⟩
  · have c := ref_utf8 t w hs true (by simpa using hv)
    have hl' : (1048576 : Int) < t.size := by omega
    clear hv he
    go_enter Tryz.func84, Tryz.ntmps84
    go_wp2_with (go_at_call 78; refine c.mono ?_; rintro r w2 ⟨rfl, hb2⟩)
    go_ret
    exact ⟨rfl, hb2⟩
  · have c := ref_utf8 t w hs false (by simpa using hv)
    clear hv he
    go_enter Tryz.func84, Tryz.ntmps84
    go_wp2_with (go_at_call 78; refine c.mono ?_; rintro r w2 ⟨rfl, hb2⟩)
    go_ret
    exact ⟨rfl, hb2⟩

theorem ref_chk (k n : Int) (t : ByteArray) (w : World) (hs : t.size ≤ 35184372087808) :
    Calls Tryz.prog 73 #[pl k n t] w fun e w' => e = .returned (.int .i64 (chk k n t)) ∧ Below w.heap.size w w' := by
  have b0 := (Below.refl w.heap.size w).alloc (Nat.le_refl _) (.cells #[.int .i64 k, .int .i64 n, .string t] 45)
  have cT := from_below b0 (ref_txt t _ hs)
  obtain ⟨E, hE⟩ : ∃ E, chk k n t = E := ⟨_, rfl⟩
  rw [hE]
  by_cases h3 : k = 3
  · subst h3
    by_cases hn : n = 0
    · subst hn
      rw [chk_text] at hE
      rw [hE] at cT
      clear hE
      go_enter Tryz.func73, Tryz.ntmps73
      go_wp2_with (go_at_call 84; refine cT.mono ?_; rintro r w2 ⟨rfl, hb2⟩)
      go_ret
      exact ⟨rfl, hb2⟩
    · have hd : (n == 0) = false := by simpa using hn
      have : E = 5 := by rw [← hE]; simp [chk, fitB, hn]
      subst this
      clear hE cT hn
      go_enter Tryz.func73, Tryz.ntmps73
      go_wp2
      go_ret
      exact ⟨rfl, b0⟩
  · have hT : fitB k n t = true → t = ⟨#[]⟩ := fun hf => by
      have hf2 := hf
      unfold fitB at hf2
      repeat' split at hf2
      all_goals first | (simp only [Bool.and_eq_true, emp_iff] at hf2; exact hf2.2) | exact emp_iff.1 hf2 | (exfalso; omega) | (exfalso; cases hf2)
    have hE2 : E = if fitB k n t then 0 else 5 := by
      rw [← hE, chk]
      by_cases hf : fitB k n t = true
      · rw [if_pos hf, if_pos hf, hT hf, txtE_nil]
      · rw [if_neg hf, if_neg hf]
    clear hE hT cT
    by_cases h0 : k = 0
    · subst h0
      by_cases hn : n = 0
      · subst hn
        cases hEm : t.toList.isEmpty <;>
        · simp [fitB, hEm] at hE2
          subst hE2
          go_enter Tryz.func73, Tryz.ntmps73
          go_wp2
          go_ret
          exact ⟨rfl, b0⟩
      · have hd : (n != 0) = true := by simpa using hn
        simp [fitB, hn] at hE2
        subst hE2
        clear hn
        go_enter Tryz.func73, Tryz.ntmps73
        go_wp2
        go_ret
        exact ⟨rfl, b0⟩
    by_cases h1 : k = 1
    · subst h1
      clear h0 h3
      by_cases hlo : n < 0
      · have a1 : n ≠ 0 := by omega
        have a2 : n ≠ 1 := by omega
        simp [fitB, a1, a2] at hE2
        subst hE2
        clear a1 a2
        go_enter Tryz.func73, Tryz.ntmps73
        go_wp2
        go_ret
        exact ⟨rfl, b0⟩
      by_cases hhi : 1 < n
      · have a1 : n ≠ 0 := by omega
        have a2 : n ≠ 1 := by omega
        simp [fitB, a1, a2] at hE2
        subst hE2
        clear a1 a2
        go_enter Tryz.func73, Tryz.ntmps73
        go_wp2
        go_ret
        exact ⟨rfl, b0⟩
      · have hn : n = 0 ∨ n = 1 := by omega
        clear hlo hhi
        rcases hn with rfl | rfl
        all_goals
          cases hEm : t.toList.isEmpty <;>
          · simp [fitB, hEm] at hE2
            subst hE2
            go_enter Tryz.func73, Tryz.ntmps73
            go_wp2
            go_ret
            exact ⟨rfl, b0⟩
    by_cases h2 : k = 2
    · subst h2
      clear h0 h1 h3
      cases hEm : t.toList.isEmpty <;>
      · simp [fitB, hEm] at hE2
        subst hE2
        go_enter Tryz.func73, Tryz.ntmps73
        go_wp2
        go_ret
        exact ⟨rfl, b0⟩
    · have d0 : (k == 0) = false := by simpa using h0
      have d1 : (k == 1) = false := by simpa using h1
      have d2 : (k == 2) = false := by simpa using h2
      have d3 : (k == 3) = false := by simpa using h3
      simp [fitB, h0, h1, h2, h3] at hE2
      subst hE2
      clear h0 h1 h2 h3
      go_enter Tryz.func73, Tryz.ntmps73
      go_wp2
      go_ret
      exact ⟨rfl, b0⟩

end Go.Proofs.YtfllomfjhkgaoaaGreatDoor

/- utf8.ValidString at this program: whether a text breaks nowhere. -/
namespace Go.Proofs.YtfllomfjhkgaoaaGreatDoor
open Go Go.RowKit Go.Lib Go.Shelf
set_option linter.unusedVariables false

def Tryz.lays196_ren : Go.Shelf.Ren := ⟨fun | 196 => 72 | 259 => 83 | n => n, fun | 0 => 0 | 3 => 3 | 4 => 4 | 5 => 5 | 9 => 9 | 12 => 12 | 46 => 140 | 53 => 159 | 119 => 136 | 138 => 138 | 139 => 139 | n => n, fun | 3 => 19 | 4 => 20 | n => n⟩
theorem Tryz.lays196 : Go.Proofs.Lays.n196 Tryz.prog Tryz.lays196_ren := {
  mixed := by kernel_rfl
  f196 := Tryz.func72.trans (congrArg some (by kernel_rfl))
  f259 := Tryz.func83.trans (congrArg some (by kernel_rfl))
  t0 := Tryz.underlying0
  a0 := Tryz.isAgg0
  z0 := Tryz.sizeOf0
  v0 := Tryz.zeroValue0
  t3 := Tryz.underlying3
  a3 := Tryz.isAgg3
  z3 := Tryz.sizeOf3
  v3 := Tryz.zeroValue3
  t4 := Tryz.underlying4
  a4 := Tryz.isAgg4
  z4 := Tryz.sizeOf4
  v4 := Tryz.zeroValue4
  t5 := Tryz.underlying5
  a5 := Tryz.isAgg5
  z5 := Tryz.sizeOf5
  v5 := Tryz.zeroValue5
  t9 := Tryz.underlying9
  a9 := Tryz.isAgg9
  z9 := Tryz.sizeOf9
  v9 := Tryz.zeroValue9
  t12 := Tryz.underlying12
  a12 := Tryz.isAgg12
  z12 := Tryz.sizeOf12
  v12 := Tryz.zeroValue12
  t46 := Tryz.underlying140
  a46 := Tryz.isAgg140
  z46 := Tryz.sizeOf140
  v46 := Tryz.zeroValue140
  t53 := Tryz.underlying159
  a53 := Tryz.isAgg159
  z53 := Tryz.sizeOf159
  v53 := Tryz.zeroValue159
  t119 := Tryz.underlying136
  a119 := Tryz.isAgg136
  z119 := Tryz.sizeOf136
  t138 := Tryz.underlying138
  a138 := Tryz.isAgg138
  z138 := Tryz.sizeOf138
  v138 := Tryz.zeroValue138
  t139 := Tryz.underlying139
  a139 := Tryz.isAgg139
  z139 := Tryz.sizeOf139
  v139 := Tryz.zeroValue139
  g3 := by kernel_rfl
  g4 := by kernel_rfl }

theorem validD_encs : ∀ (rs : List Nat) (t : List UInt8), (∀ r ∈ rs, scal r) → validD (encs rs ++ t) = validD t
  | [], t, _ => rfl
  | r :: rs, t, h => by
    have hr := h r (List.mem_cons_self ..)
    have hp := enc_pos hr
    rw [encs, List.append_assoc, validD_step _ (by intro e; have := congrArg List.length e; rw [List.length_append] at this; simp only [List.length_nil] at this; omega), dec_enc hr, if_neg (by
      rintro ⟨h1, h2⟩
      simp only at h1 h2
      rw [enc_len hr, h1] at h2
      simp at h2)]
    rw [List.drop_left]
    exact validD_encs rs t (fun x hx => h x (List.mem_cons_of_mem _ hx))
theorem validD_brk (s : ByteArray) : validD s.data.toList = decide (brk s.data.toList = s.size) := by
  obtain ⟨t, h1, h2, h3⟩ := text_cases s.data.toList
  have hb := brk_eq h1 h2
  rw [← h3] at hb
  have hlen : s.data.toList.length = s.size := size_toList s
  have hl := congrArg List.length h3
  rw [List.length_append, hlen] at hl
  rw [hb]
  conv => lhs; rw [h3, validD_encs _ _ h1]
  rcases h2 with rfl | h2
  · simp only [List.length_nil] at hl
    rw [decide_eq_true (by omega)]; rfl
  · have hne : t ≠ [] := by rintro rfl; revert h2; decide
    rw [validD_step t hne, if_pos ⟨by rw [h2], by rw [h2]⟩]
    have : 0 < t.length := List.length_pos_iff.2 hne
    rw [decide_eq_false (by omega)]
theorem valid_any {I : List Nat} {a : Nat → Addr} (s : ByteArray) (w : World) (hS : Std I a w) (hs : s.size ≤ 281474976710656) :
    Calls Tryz.prog 72 #[.string s] w fun e w' => e = .returned (.bool (decide (brk s.data.toList = s.size))) ∧ Below w.heap.size w w' := by
  have := Any.utf8_ValidString Tryz.lays196 s w (by omega) hS.tabs
  rw [validD_brk] at this
  exact this
end Go.Proofs.YtfllomfjhkgaoaaGreatDoor

/- What the reference of layer 3 says of pairs and lists: its numbers are the code's. -/
namespace Go.Proofs.YtfllomfjhkgaoaaGreatDoor
open Go Go.RowKit Go.Lib
set_option linter.unusedVariables false

def Tiny (L : List A2) : Prop := ∀ q ∈ L, q.1.size ≤ 1048576 ∧ q.2.2.2.size ≤ 1048576
theorem tiny_small {L : List A2} (h : Tiny L) : Small L := fun q hq => by have := h q hq; unfold big; omega
theorem geq_run {P : Program} {t : TypeId} (x y : ByteArray) (b : Bool) (h : (!decide (kc x y < 0)) = b) (w : World) : (binOp .geq t (.string x) (.string y)).run P w = .ok (.bool b) w := by
  rw [← h, ← less_kc]
  simp [binOp, Op.stringOp]

set_option maxHeartbeats 1000000 in
theorem ref_pair {I : List Nat} {a : Nat → Addr} (q : A2) (w : World) (hS : Std I a w) (h1 : q.1.size ≤ 1048576) (h2 : q.2.2.2.size ≤ 1048576) :
    Calls Tryz.prog 57 #[atV q] w fun e w' => e = .returned (.int .i64 (pairE q)) ∧ Below w.heap.size w w' := by
  obtain ⟨k, x, n, t⟩ := q
  simp only at h1 h2
  have b0 := (Below.refl w.heap.size w).alloc (Nat.le_refl _) (.cells #[.string k, .int .i64 x, .int .i64 n, .string t] 106)
  by_cases hE : k.toList.isEmpty = true
  · have hz : k = ⟨#[]⟩ := emp_iff.1 hE
    subst hz
    rw [show pairE (⟨#[]⟩, x, n, t) = 6 by unfold pairE; rw [if_pos (Or.inl hE)]]
    clear hS hE
    go_enter Tryz.func57, Tryz.ntmps57
    go_wp2
    go_ret
    exact ⟨rfl, b0⟩
  · have hk : 0 < k.size := by
      rcases Nat.eq_zero_or_pos k.size with h | h
      · exact absurd (emp_iff.2 (ByteArray.ext (Array.eq_empty_of_size_eq_zero h))) hE
      · exact h
    have hkI : ¬ (k.size : Int) < 1 := by omega
    by_cases hL : 64 < k.size
    · rw [show pairE (k, x, n, t) = 6 by unfold pairE; rw [if_pos (Or.inr hL)]]
      have hLI : (64 : Int) < k.size := by omega
      clear hS hE
      go_enter Tryz.func57, Tryz.ntmps57
      go_wp2
      go_ret
      exact ⟨rfl, b0⟩
    · have hLI : ¬ (64 : Int) < k.size := by omega
      have hE2 : ¬ (k.toList.isEmpty = true ∨ 64 < k.size) := fun h => h.elim hE hL
      have cV := valid_any k _ (hS.below b0) (by omega)
      by_cases hB : brk k.data.toList = k.size
      · rw [show pairE (k, x, n, t) = chk x n t by unfold pairE; rw [if_neg hE2, if_neg (by simpa using hB)]]
        rw [decide_eq_true hB] at cV
        have c2 := fun W (hW : Below w.heap.size w W) => from_below hW (ref_chk x n t W (by omega))
        obtain ⟨E, hEE⟩ : ∃ E, chk x n t = E := ⟨_, rfl⟩
        rw [hEE] at c2 ⊢
        clear hS hE hB hEE hE2
        go_enter Tryz.func57, Tryz.ntmps57
        go_wp2_with (first
          | (go_at_call 72; refine cV.mono ?_; rintro e w1 ⟨rfl, b1⟩; have b := b0.trans (b1.mono b0.size); have d1 := b1.cell (p := ⟨w.heap.size, 1, none⟩) (by simp); have d2 := b1.cell (p := ⟨w.heap.size, 2, none⟩) (by simp); have d3 := b1.cell (p := ⟨w.heap.size, 3, none⟩) (by simp))
          | (go_at_call 73; refine (c2 _ b).mono ?_; rintro e w2 ⟨rfl, b2⟩))
        go_ret
        exact ⟨rfl, b2⟩
      · rw [show pairE (k, x, n, t) = 1 by unfold pairE; rw [if_neg hE2, if_pos hB]]
        rw [decide_eq_false hB] at cV
        clear hS hE hB hE2
        go_enter Tryz.func57, Tryz.ntmps57
        go_wp2_with (go_at_call 72; refine cV.mono ?_; rintro e w1 ⟨rfl, b1⟩)
        go_ret
        exact ⟨rfl, b0.trans (b1.mono b0.size)⟩

set_option maxHeartbeats 2000000 in
set_option maxRecDepth 100000 in
theorem ref_check {I : List Nat} {a : Nat → Addr} (v : Value) (L : List A2) (nulls : Bool) (w : World) (hS : Std I a w) (hv : RowA w v L)
    (hs : Tiny L) (hl : L.length ≤ 4611686018427387904) :
    Calls Tryz.prog 26 #[v, .bool nulls] w fun r w' => r = .returned (.int .i64 (listE nulls none L)) ∧ Below w.heap.size w w' := by
  obtain ⟨n, hn⟩ : ∃ n, L.length = n := ⟨_, rfl⟩
  obtain ⟨p, cap, rfl, hcap, hc⟩ := hv
  rw [hn] at hl hcap ⊢
  have HN : Hid (L.length = n) := hn
  have HC : Hid _ := hc
  have HS : Hid _ := hS
  have HZ : Hid _ := hs
  clear hc hS hs hn
  go_enter Tryz.func26, Tryz.ntmps26
  go_wp2
  go_loopw [10] (fun i wr => ∃ (k : Nat) (pv : Option ByteArray), k ≤ n ∧ i = .int .i64 k ∧ Below w.heap.size w wr ∧ Hid (listE nulls none L = listE nulls pv (L.drop k) ∧ (k = 0 → pv = none) ∧ ∀ j q, k = j + 1 → L[j]? = some q → pv = some q.1)) (fun i _ => n - (RowKit.intOf i).toNat)
  case atStart => exact ⟨0, none, Nat.zero_le _, rfl, Below.refl _ _, rfl, fun _ => rfl, fun j q h => by omega⟩
  case round =>
    obtain ⟨k, pv, hk, rfl, hbw, H⟩ := hrel
    by_cases hlt : k < n
    · have hltI : (k : Int) < n := by omega
      obtain ⟨q, hq⟩ : ∃ q, L[k]? = some q := ⟨_, List.getElem?_eq_getElem (by rw [HN.out]; exact hlt)⟩
      obtain ⟨b, off, rfl, hp⟩ := HC.out k q hq
      have hpw := hp.below hbw
      obtain ⟨c0, c1, c2, c3⟩ := hpw
      have hzs := HZ.out _ (List.mem_of_getElem? hq)
      have hd : L.drop k = q :: L.drop (k + 1) := by
        rw [List.drop_eq_getElem_cons (by rw [HN.out]; exact hlt)]
        rw [List.getElem?_eq_getElem (by rw [HN.out]; exact hlt)] at hq
        rw [Option.some.inj hq]
      obtain ⟨qk, qx, qn, qt⟩ := q
      simp only at c0 c1 c2 c3 hzs
      have hb1 : Below w.heap.size w (wr.alloc (.cells #[.string qk, .int .i64 qx, .int .i64 qn, .string qt] 106)) := hbw.alloc hbw.size _
      have cP := ref_pair (qk, qx, qn, qt) _ (HS.out.below hb1) hzs.1 hzs.2
      by_cases hE : pairE (qk, qx, qn, qt) = 0
      · rw [hE] at cP
        have hE1 : listE nulls none L = (if (!nulls && qx == 0) = true then 7 else if above pv qk = true then listE nulls (some qk) (L.drop (k + 1)) else 8) := by
          rw [H.out.1, hd, listE, if_pos hE]
        have HP : Hid ((k = 0 → pv = none) ∧ ∀ j q, k = j + 1 → L[j]? = some q → pv = some q.1) := H.out.2
        have HQ : Hid (L[k]? = some (qk, qx, qn, qt)) := hq
        have bp : ∀ W, Below (wr.alloc (.cells #[.string qk, .int .i64 qx, .int .i64 qn, .string qt] 106)).heap.size (wr.alloc (.cells #[.string qk, .int .i64 qx, .int .i64 qn, .string qt] 106)) W → PairAt W wr.heap.size 0 (qk, qx, qn, qt) := fun W hW => PairAt.below (w := wr.alloc (.cells #[.string qk, .int .i64 qx, .int .i64 qn, .string qt] 106)) ⟨by simp, by simp, by simp, by simp⟩ hW
        have HE1 : Hid _ := hE1
        clear hzs hq hd hE hE1 H hp
        by_cases hN : (!nulls && qx == 0) = true
        · have HR : Hid (listE nulls none L = 7) := by
            show _ = _
            rw [HE1.out, if_pos hN]
          simp only [Bool.and_eq_true, Bool.not_eq_true', beq_iff_eq] at hN
          obtain ⟨rfl, rfl⟩ := hN
          clear HE1 HP HQ
          go_wp2_with fail
          refine cP.mono ?_; rintro r w3 ⟨rfl, hb3⟩
          obtain ⟨e0, e1, e2, e3⟩ := bp _ hb3
          clear bp
          go_wp2
          go_ret
          rw [HR.out]
          exact ⟨rfl, hb1.trans (hb3.mono hb1.size)⟩
        · have HN2 : Hid (¬ (!nulls && qx == 0) = true) := hN
          have hcase : (qx == 0) = false ∨ ((qx == 0) = true ∧ nulls = true) := by
            cases hx : (qx == 0)
            · exact Or.inl rfl
            · cases hnl : nulls
              · rw [hx, hnl] at hN; exact absurd rfl hN
              · exact Or.inr ⟨rfl, rfl⟩
          clear hN
          rcases hcase with hx | ⟨hx, rfl⟩
          all_goals
            go_wp2_with fail
            refine cP.mono ?_; rintro r w3 ⟨rfl, hb3⟩
            obtain ⟨e0, e1, e2, e3⟩ := bp _ hb3
            have hb4 := hb1.trans (hb3.mono hb1.size)
            clear bp hb3 c0 c1 c2 c3
            go_wp2_with fail
            cases k with
            | zero =>
              have hg0 : decide ((0 : Int) < ((0 : Nat) : Int)) = false := by decide
              go_quiet (fail)
              go_wp2
              go_roundw
              case rel =>
                refine ⟨1, some qk, by omega, by go_num, by first | exact hb4 | exact below_drewN hb4 _, ?_, by omega, fun j q h1 h2 => ?_⟩
                · rw [HE1.out, if_neg HN2.out, if_pos (by rw [HP.out.1 rfl]; rfl)]
                · obtain rfl : j = 0 := by omega
                  rw [HQ.out] at h2
                  rw [← Option.some.inj h2]
              case measure => simp [RowKit.intOf]; omega
            | succ j =>
              obtain ⟨q', hq'⟩ : ∃ q', L[j]? = some q' := ⟨_, List.getElem?_eq_getElem (by rw [HN.out]; omega)⟩
              obtain ⟨b', off', hbo, hp'⟩ := HC.out j q' hq'
              simp only [Option.some.injEq, Addr.mk.injEq, and_true] at hbo
              obtain ⟨rfl, rfl⟩ := hbo
              have d0 := (hp'.below hb4).c0
              have hpv := HP.out.2 j q' rfl hq'
              have hg0 : (0 : Int) < ((j + 1 : Nat) : Int) := by omega
              have hg1 : (((j + 1 : Nat) : Int) - 1) = (j : Int) := by omega
              have hg2 : (j : Int) < n := by omega
              have hg3 : (0 : Int) ≤ j := by omega
              have hwr : IntKind.i64.wrap (j : Int) = (j : Int) := IntWalk.i64_in _ (by omega)
              obtain ⟨k', p'⟩ := q'
              simp only at d0 hpv
              by_cases hlt2 : kc k' qk < 0
              · have hless := geq_run (P := Tryz.prog) (t := 9) k' qk false (by simpa using hlt2)
                have HR : Hid (listE _ none L = listE _ (some qk) (L.drop (j + 1 + 1))) := HE1.out.trans (by rw [if_neg HN2.out, if_pos (by rw [hpv]; simpa [above] using hlt2)])
                have HP2 : Hid (∀ i q, j + 1 + 1 = i + 1 → L[i]? = some q → some qk = some q.1) := fun i q h1 h2 => by
                  obtain rfl : i = j + 1 := by omega
                  rw [HQ.out] at h2
                  rw [← Option.some.inj h2]
                clear hlt2 hpv hp' hq' HP HE1
                go_quiet (fail)
                go_wp2
                go_roundw
                case rel => exact ⟨j + 1 + 1, some qk, by omega, by go_num, by first | exact hb4 | exact below_drewN hb4 _, HR.out, fun h => by omega, HP2.out⟩
                case measure => simp [RowKit.intOf]; omega
              · have hless := geq_run (P := Tryz.prog) (t := 9) k' qk true (by simpa using hlt2)
                have HR : Hid (listE _ none L = 8) := HE1.out.trans (by rw [if_neg HN2.out, if_neg (by rw [hpv]; simpa [above] using hlt2)])
                clear hlt2 hpv hp' hq' HP HE1
                go_quiet (fail)
                go_wp2
                go_ret
                rw [HR.out]
                exact ⟨rfl, by first | exact hb4 | exact below_drewN hb4 _⟩
      · obtain ⟨e, he⟩ : ∃ e, pairE (qk, qx, qn, qt) = e + 1 := ⟨pairE (qk, qx, qn, qt) - 1, by omega⟩
        have HR : Hid (listE nulls none L = e + 1) := by
          show _ = _
          rw [H.out.1, hd, listE, if_neg hE, he]
        have hen : (((e + 1 : Nat) : Int) != 0) = true := by simp; omega
        rw [he] at cP
        clear hzs hq hd hE he H hp
        go_wp2_with fail
        refine cP.mono ?_; rintro r w3 ⟨rfl, hb3⟩
        go_wp2
        go_ret
        rw [HR.out]
        exact ⟨rfl, hb1.trans (hb3.mono hb1.size)⟩
    · have hltI : ¬ (k : Int) < n := by omega
      have HR : Hid (listE nulls none L = 0) := by
        show _ = _
        rw [H.out.1, List.drop_of_length_le (by rw [HN.out]; omega), listE]
      clear H
      go_wp2
      go_ret
      rw [HR.out]
      exact ⟨rfl, hbw⟩

end Go.Proofs.YtfllomfjhkgaoaaGreatDoor

/- What vellumref04.Refuse and Check answer: what an insert is refused with. -/
namespace Go.Proofs.YtfllomfjhkgaoaaGreatDoor
open Go Go.RowKit Go.Lib
set_option linter.unusedVariables false

theorem Fit.tiny {o : Op5} (h : Fit o) : Tiny o.A := h.A

set_option maxHeartbeats 2000000 in
theorem ref_ins {I : List Nat} {a : Nat → Addr} (o : Op5) (s : Value) (w : World) (hS : Std I a w) (hR : RN w s o.A) (hF : Fit o) :
    Calls Tryz.prog 63 #[opV o s] w fun r w' => r = .returned (.int .i64 (insE o)) ∧ Below w.heap.size w w' := by
  have b0 := (Below.refl w.heap.size w).alloc (Nat.le_refl _) (.cells (opC o s) 48)
  have D0 := BoxO.new w o s
  have cU : Hid (∀ b, decide (brk o.t.data.toList = o.t.size) = b → ∀ W, Calls Tryz.prog 78 #[.string o.t] W fun r w' => r = .returned (.bool b) ∧ Below W.heap.size W w') := fun b hb W => ref_utf8 o.t W (by have := hF.t; omega) b hb
  have cV : Hid (∀ W, Calls Tryz.prog 73 #[pl o.v.1 o.v.2.1 o.v.2.2] W fun r w' => r = .returned (.int .i64 (chkP o.v)) ∧ Below W.heap.size W w') := fun W => ref_chk _ _ _ W (by have := hF.v; omega)
  have cA : Hid (∀ W, Below w.heap.size w W → Calls Tryz.prog 26 #[s, .bool false] W fun r w' => r = .returned (.int .i64 (listE false none o.A)) ∧ Below W.heap.size W w') := fun W hW => ref_check s o.A false W (hS.below hW) (hR.row.below hW) hF.tiny (by have := hF.n; omega)
  obtain ⟨E, hE⟩ : ∃ E, insE o = E := ⟨_, rfl⟩
  rw [hE]
  obtain ⟨V, hV⟩ : ∃ V, chkP o.v = V := ⟨_, rfl⟩
  obtain ⟨L, hL⟩ : ∃ L, listE false none o.A = L := ⟨_, rfl⟩
  rw [hV] at cV
  rw [hL] at cA
  have hE' : E = if fldE o ≠ 0 then fldE o else if brk o.t.data.toList ≠ o.t.size then 1 else if V ≠ 0 then V else L := by rw [← hE, ← hV, ← hL]; rfl
  have hz : o.v = z0 → V = 0 := fun h => by rw [← hV, h]; exact chk_z0
  obtain ⟨U, hU⟩ : ∃ U, decide (brk o.t.data.toList = o.t.size) = U := ⟨_, rfl⟩
  have hU' : (brk o.t.data.toList ≠ o.t.size) = (U = false) := by rw [← hU]; simp
  simp only [hU'] at hE'
  have cU : Hid (∀ W, Calls Tryz.prog 78 #[.string o.t] W fun r w' => r = .returned (.bool U) ∧ Below W.heap.size W w') := cU.out U hU
  clear hE hV hL hU hU' hF hS hR
  have HD : Hid (BoxO (w.alloc (.cells (opC o s) 48)) w.heap.size o s) := D0
  have HA : Hid (∀ W, Below (w.alloc (.cells (opC o s) 48)).heap.size (w.alloc (.cells (opC o s) 48)) W → Calls Tryz.prog 26 #[s, .bool false] W fun r w' => r = .returned (.int .i64 L) ∧ Below W.heap.size W w') := fun W hW => cA.out W (b0.trans (hW.mono b0.size))
  clear cA
  obtain ⟨k, t, ⟨x, n, u⟩, c, A⟩ := o
  obtain ⟨d0, d1, d2, d3, d4, d5, d6⟩ := D0
  simp only at d0 d1 d2 d3 d4 d5 d6 cU cV hz
  simp only [opC] at b0 d0 d1 d2 d3 d4 d5 d6 HD HA
  have gd := fun op x' y' w => guard_pl op x' y' (x, n, u) (0, 0, ⟨#[]⟩) w
  unfold fldE at hE'
  simp only at hE'
  have fin : ∀ w2, Below (w.alloc (.cells #[.int .i64 k, .string t, .int .i64 x, .int .i64 n, .string u, .int .i64 c, s] 48)).heap.size (w.alloc (.cells #[.int .i64 k, .string t, .int .i64 x, .int .i64 n, .string u, .int .i64 c, s] 48)) w2 → Below w.heap.size w w2 := fun w2 h => b0.trans (h.mono b0.size)
  by_cases k1 : k = 1
  · subst k1
    by_cases c0 : c = 0
    · subst c0
      cases he : t.toList.isEmpty with
      | true =>
        have hE2 : E = 9 := by rw [hE']; simp [he]
        subst hE2
        clear gd cU cV HA hz hE' HD fin
        go_enter Tryz.func63, Tryz.ntmps63
        go_wp2
        go_ret
        exact ⟨rfl, b0⟩
      | false =>
        by_cases hz0 : (x, n, u) = z0
        · have hne := neq_pl (x, n, u) (0, 0, ⟨#[]⟩) false (by rw [hz0]; show (!samP z0 z0) = false; rw [samP_self]; rfl)
          have hV0 := hz hz0
          cases U with
          | false =>
            have hE2 : E = 1 := by rw [hE']; simp [he, hz0]
            subst hE2
            clear hz hz0 hV0 cV HA hE' HD
            go_enter Tryz.func63, Tryz.ntmps63
            go_wp2_with fail
            refine (cU.out _).mono ?_; rintro r w2 ⟨rfl, h2⟩
            have b2 := fin _ h2
            go_wp2
            go_ret
            exact ⟨rfl, b2⟩
          | true =>
            have hE2 : E = L := by rw [hE', hV0]; simp [he, hz0]
            subst hE2
            clear hz hz0 hV0 cV hE'
            go_enter Tryz.func63, Tryz.ntmps63
            go_wp2_with fail
            refine (cU.out _).mono ?_; rintro r w2 ⟨rfl, h2⟩
            obtain ⟨p0, p1, p2, p3, p4, p5, p6⟩ := HD.out.below h2
            simp only at p0 p1 p2 p3 p4 p5 p6
            have c2 := HA.out _ h2
            have b2 := fin _ h2
            clear d0 d1 d2 d3 d4 d5 d6 h2
            go_wp2_with fail
            refine c2.mono ?_; rintro r w3 ⟨rfl, h3⟩
            go_wp2
            go_ret
            exact ⟨rfl, b2.trans (h3.mono b2.size)⟩
        · have hne := neq_pl (x, n, u) (0, 0, ⟨#[]⟩) true (by show (!samP (x, n, u) z0) = true; rw [samP_ne hz0]; rfl)
          have hE2 : E = 9 := by rw [hE']; simp [he, hz0]
          subst hE2
          clear hz hz0 cV cU HA hE' HD fin
          go_enter Tryz.func63, Tryz.ntmps63
          go_wp2
          go_ret
          exact ⟨rfl, b0⟩
    · have hc : (c == 0) = false := by simpa using c0
      have hE2 : E = 9 := by rw [hE']; simp [c0]
      subst hE2
      clear hz cV cU HA hE' HD fin c0
      go_enter Tryz.func63, Tryz.ntmps63
      go_wp2
      go_ret
      exact ⟨rfl, b0⟩
  · have hk1 : (k != 1) = true := by simpa using k1
    by_cases k2 : k = 2
    · subst k2
      clear hk1 k1
      by_cases c0 : c = 0
      · subst c0
        cases he : t.toList.isEmpty with
        | true =>
          have hE2 : E = 6 := by rw [hE']; simp [he]
          subst hE2
          clear gd cU cV HA hz hE' HD fin
          go_enter Tryz.func63, Tryz.ntmps63
          go_wp2
          go_ret
          exact ⟨rfl, b0⟩
        | false =>
          by_cases h64 : 64 < t.size
          · have h64I : (64 : Int) < (t.size : Int) := by omega
            have hE2 : E = 6 := by rw [hE']; simp [he, h64]
            subst hE2
            clear gd cU cV HA hz hE' HD fin
            go_enter Tryz.func63, Tryz.ntmps63
            go_wp2
            go_ret
            exact ⟨rfl, b0⟩
          · have h64I : ¬ (64 : Int) < (t.size : Int) := by omega
            cases U with
            | false =>
              have hE2 : E = 1 := by rw [hE']; simp [he, h64]
              subst hE2
              clear hz cV HA hE' HD gd
              go_enter Tryz.func63, Tryz.ntmps63
              go_wp2_with fail
              refine (cU.out _).mono ?_; rintro r w2 ⟨rfl, h2⟩
              have b2 := fin _ h2
              go_wp2
              go_ret
              exact ⟨rfl, b2⟩
            | true =>
              by_cases hV : V = 0
              · have hE2 : E = L := by rw [hE']; simp [he, h64, hV]
                subst hE2
                subst hV
                clear hz hE' gd
                go_enter Tryz.func63, Tryz.ntmps63
                go_wp2_with fail
                refine (cU.out _).mono ?_; rintro r w2 ⟨rfl, h2⟩
                obtain ⟨p0, p1, p2, p3, p4, p5, p6⟩ := HD.out.below h2
                simp only at p0 p1 p2 p3 p4 p5 p6
                clear d0 d1 d2 d3 d4 d5 d6
                go_wp2_with fail
                refine (cV.out _).mono ?_; rintro r w3 ⟨rfl, h3⟩
                have h23 := h2.trans (h3.mono h2.size)
                obtain ⟨q0, q1, q2, q3, q4, q5, q6⟩ := HD.out.below h23
                simp only at q0 q1 q2 q3 q4 q5 q6
                have c2 := HA.out _ h23
                have b3 := fin _ h23
                clear p0 p1 p2 p3 p4 p5 p6 h2 h3 h23
                go_wp2_with fail
                refine c2.mono ?_; rintro r w4 ⟨rfl, h4⟩
                go_wp2
                go_ret
                exact ⟨rfl, b3.trans (h4.mono b3.size)⟩
              · have hE2 : E = V := by rw [hE']; simp [he, h64, hV]
                subst hE2
                have hVI : ((E : Int) == 0) = false := by simp; omega
                clear hz hE' gd HA
                go_enter Tryz.func63, Tryz.ntmps63
                go_wp2_with fail
                refine (cU.out _).mono ?_; rintro r w2 ⟨rfl, h2⟩
                obtain ⟨p0, p1, p2, p3, p4, p5, p6⟩ := HD.out.below h2
                simp only at p0 p1 p2 p3 p4 p5 p6
                clear d0 d1 d2 d3 d4 d5 d6
                go_wp2_with fail
                refine (cV.out _).mono ?_; rintro r w3 ⟨rfl, h3⟩
                have b3 := fin _ (h2.trans (h3.mono h2.size))
                go_wp2
                go_ret
                exact ⟨rfl, b3⟩
      · have hc : (c == 0) = false := by simpa using c0
        have hE2 : E = 9 := by rw [hE']; simp [c0]
        subst hE2
        clear hz cV cU HA hE' HD fin c0 gd
        go_enter Tryz.func63, Tryz.ntmps63
        go_wp2
        go_ret
        exact ⟨rfl, b0⟩
    · have hk2 : (k != 2) = true := by simpa using k2
      have hE2 : E = 5 := by rw [hE']; simp [k1, k2]
      subst hE2
      clear hz cV cU HA hE' HD fin gd k1 k2
      go_enter Tryz.func63, Tryz.ntmps63
      go_wp2
      go_ret
      exact ⟨rfl, b0⟩
end Go.Proofs.YtfllomfjhkgaoaaGreatDoor

/- What content.Cut answers. -/
namespace Go.Proofs.YtfllomfjhkgaoaaGreatDoor
open Go Go.RowKit Go.Lib
set_option linter.unusedVariables false

/-- The three boxes of a call that answers two operations. -/
abbrev bx3 (w : World) (o : Op5) (s : Value) : World := ((w.alloc (.cells (opC o s) 48)).alloc (.cells (opC opZ nilS) 48)).alloc (.cells (opC opZ nilS) 48)
theorem bx3_below (w : World) (o : Op5) (s : Value) : Below w.heap.size w (bx3 w o s) := (((Below.refl w.heap.size w).alloc (Nat.le_refl _) _).alloc (by simp) _).alloc (by simp; omega) _
theorem bx3_0 (w : World) (o : Op5) (s : Value) : BoxO (bx3 w o s) w.heap.size o s := ((BoxO.new w o s).below ((Below.refl _ _).alloc (Nat.le_refl _) _)).below ((Below.refl _ _).alloc (Nat.le_refl _) _)
theorem bx3_1 (w : World) (o : Op5) (s : Value) : BoxO (bx3 w o s) (w.heap.size + 1) opZ nilS ∧ FrO (bx3 w o s) (w.heap.size + 1) := by
  have h1 := BoxO.new (w.alloc (.cells (opC o s) 48)) opZ nilS
  have h2 := FrO.new (w.alloc (.cells (opC o s) 48)) opZ nilS
  rw [World.size_alloc] at h1 h2
  exact ⟨h1.below ((Below.refl _ _).alloc (Nat.le_refl _) _), h2.below h1 ((Below.refl _ _).alloc (Nat.le_refl _) _)⟩
theorem bx3_2 (w : World) (o : Op5) (s : Value) : BoxO (bx3 w o s) (w.heap.size + 1 + 1) opZ nilS ∧ FrO (bx3 w o s) (w.heap.size + 1 + 1) := by
  have h1 := BoxO.new ((w.alloc (.cells (opC o s) 48)).alloc (.cells (opC opZ nilS) 48)) opZ nilS
  have h2 := FrO.new ((w.alloc (.cells (opC o s) 48)).alloc (.cells (opC opZ nilS) 48)) opZ nilS
  rw [World.size_alloc, World.size_alloc] at h1 h2
  exact ⟨h1, h2⟩

theorem heap_set7 {B k : Nat} (w' : World) (hk : k ≠ B) (v0 v1 v2 v3 v4 v5 v6 : Value) :
    (((((((w'.setCell ⟨B, 0, none⟩ v0).setCell ⟨B, 1, none⟩ v1).setCell ⟨B, 2, none⟩ v2).setCell ⟨B, 3, none⟩ v3).setCell ⟨B, 4, none⟩ v4).setCell ⟨B, 5, none⟩ v5).setCell ⟨B, 6, none⟩ v6).heap[k]? = w'.heap[k]? := by
  have h : ∀ (W : World) (j : Nat) (v : Value), (W.setCell ⟨B, j, none⟩ v).heap[k]? = W.heap[k]? := fun W j v => Below.heap_setCell _ _ _ _ hk
  rw [h, h, h, h, h, h, h]
theorem cell_set7 {B k j : Nat} (w' : World) (hk : k ≠ B) (v0 v1 v2 v3 v4 v5 v6 : Value) :
    (((((((w'.setCell ⟨B, 0, none⟩ v0).setCell ⟨B, 1, none⟩ v1).setCell ⟨B, 2, none⟩ v2).setCell ⟨B, 3, none⟩ v3).setCell ⟨B, 4, none⟩ v4).setCell ⟨B, 5, none⟩ v5).setCell ⟨B, 6, none⟩ v6).cell? ⟨k, j, none⟩ = w'.cell? ⟨k, j, none⟩ :=
  World.cell?_of_block (a := ⟨k, j, none⟩) (heap_set7 w' hk v0 v1 v2 v3 v4 v5 v6)
theorem below_set7 {b B : Nat} {w w' : World} (h : Below b w w') (hB : b ≤ B) (v0 v1 v2 v3 v4 v5 v6 : Value) :
    Below b w (((((((w'.setCell ⟨B, 0, none⟩ v0).setCell ⟨B, 1, none⟩ v1).setCell ⟨B, 2, none⟩ v2).setCell ⟨B, 3, none⟩ v3).setCell ⟨B, 4, none⟩ v4).setCell ⟨B, 5, none⟩ v5).setCell ⟨B, 6, none⟩ v6) :=
  ((((((h.setCell hB _).setCell hB _).setCell hB _).setCell hB _).setCell hB _).setCell hB _).setCell hB _

end Go.Proofs.YtfllomfjhkgaoaaGreatDoor

/- What content.Cut answers of a text that can be cut. -/
namespace Go.Proofs.YtfllomfjhkgaoaaGreatDoor
open Go Go.RowKit Go.Lib
set_option linter.unusedVariables false
end Go.Proofs.YtfllomfjhkgaoaaGreatDoor

/- What content.Join answers. -/
namespace Go.Proofs.YtfllomfjhkgaoaaGreatDoor
open Go Go.RowKit Go.Lib
set_option linter.unusedVariables false

/-- What a join of two is refused with. -/
def joinE (o o' : Op5) : Nat := if insE o = 0 then insE o' else insE o
/-- Whether two inserts are joined. -/
def joinB (o o' : Op5) : Bool := decide (o.k = 1) && (decide (o'.k = 1) && decide (o.A = o'.A))
def joinO (o o' : Op5) : Op5 := ⟨1, o.t ++ o'.t, z0, 0, o.A⟩
abbrev bxJ (w : World) (o : Op5) (s : Value) (o' : Op5) (s' : Value) : World := ((w.alloc (.cells (opC o s) 48)).alloc (.cells (opC o' s') 48)).alloc (.cells (opC opZ nilS) 48)
theorem bxJ_below (w : World) (o : Op5) (s : Value) (o' : Op5) (s' : Value) : Below w.heap.size w (bxJ w o s o' s') := (((Below.refl w.heap.size w).alloc (Nat.le_refl _) _).alloc (by simp) _).alloc (by simp; omega) _
theorem bxJ_1 (w : World) (o : Op5) (s : Value) (o' : Op5) (s' : Value) : BoxO (bxJ w o s o' s') (w.heap.size + 1) o' s' := by
  have h1 := BoxO.new (w.alloc (.cells (opC o s) 48)) o' s'
  rw [World.size_alloc] at h1
  exact h1.below ((Below.refl _ _).alloc (Nat.le_refl _) _)
theorem bxJ_2 (w : World) (o : Op5) (s : Value) (o' : Op5) (s' : Value) : BoxO (bxJ w o s o' s') (w.heap.size + 1 + 1) opZ nilS ∧ FrO (bxJ w o s o' s') (w.heap.size + 1 + 1) := by
  have h1 := BoxO.new ((w.alloc (.cells (opC o s) 48)).alloc (.cells (opC o' s') 48)) opZ nilS
  have h2 := FrO.new ((w.alloc (.cells (opC o s) 48)).alloc (.cells (opC o' s') 48)) opZ nilS
  rw [World.size_alloc, World.size_alloc] at h1 h2
  exact ⟨h1, h2⟩

end Go.Proofs.YtfllomfjhkgaoaaGreatDoor

/- content.textCells: the cells of a text. -/
namespace Go.Proofs.YtfllomfjhkgaoaaGreatDoor
open Go Go.RowKit Go.Lib
set_option linter.unusedVariables false

/-- Cells of scalars with one list. -/
def mkC (A : List A2) (rs : List Nat) : List C5 := rs.map fun (r : Nat) => (((r : Nat) : Int), ⟨#[]⟩, z0, A)
theorem mkC_len (A : List A2) (rs : List Nat) : (mkC A rs).length = rs.length := by simp [mkC]
theorem one_rowC (w : World) (d : CV) : RowC (w.alloc (.cells (ceC d) 59)) (.slice (some ⟨w.heap.size, 0, none⟩) 1 1) [d] :=
  ⟨_, 1, rfl, Nat.le_refl _, fun h => (by cases h), fun _ => ⟨w.heap.size, 0, rfl, fun j u hu => by
    match j, hu with
    | 0, hu => simp [cellsC] at hu; subst hu; simp [ceC]
    | 1, hu => simp [cellsC] at hu; subst hu; simp [ceC]
    | 2, hu => simp [cellsC] at hu; subst hu; simp [ceC]
    | 3, hu => simp [cellsC] at hu; subst hu; simp [ceC]
    | 4, hu => simp [cellsC] at hu; subst hu; simp [ceC]
    | 5, hu => simp [cellsC] at hu; subst hu; simp [ceC]
    | j + 6, hu => simp [cellsC] at hu⟩⟩
theorem keepA_iterAt {w : World} {K : Nat} {s : ByteArray} {p0 : Nat} (hk : w.heap[K]? = some (.stringIter s p0)) (p : Nat) : KeepA w (w.iterAt K s p) := fun k cur hc => by
  have hne : k ≠ K := fun e => by subst e; rw [hk] at hc; cases hc
  simp [World.iterAt, Ne.symm hne]
theorem ownsC_iterAt {w : World} {B : Nat} {v : Value} {D : List CV} (h : OwnC w B v D) {K : Nat} {s : ByteArray} {p0 : Nat} (hk : w.heap[K]? = some (.stringIter s p0)) (p : Nat) : OwnC (w.iterAt K s p) B v D :=
  owns_same h fun k hb => by
    obtain ⟨_, cur, hc⟩ := owns_block h k hb
    have hne : k ≠ K := fun e => by subst e; rw [hk] at hc; cases hc
    simp [World.iterAt, Ne.symm hne]

end Go.Proofs.YtfllomfjhkgaoaaGreatDoor

/- What the values' methods answer: Kind, Plain; how values of the interface compare. -/
namespace Go.Proofs.YtfllomfjhkgaoaaGreatDoor
open Go Go.RowKit Go.Lib
set_option linter.unusedVariables false
theorem plain_n (w : World) : Calls Tryz.prog 155 #[.agg #[]] w fun e w' => e = .returned (pl 0 0 ⟨#[]⟩) ∧ Below w.heap.size w w' := by
  go_enter Tryz.func155, Tryz.ntmps155
  go_wp2
  exact bodyPost_ret (v := pl 0 0 ⟨#[]⟩) (by simp [results, Tryz.results155, go_sem]) rfl ⟨rfl, by go_grown⟩
theorem plain_f (b : Bool) (w : World) : Calls Tryz.prog 149 #[.bool b] w fun e w' => e = .returned (pl 1 (if b then 1 else 0) ⟨#[]⟩) ∧ Below w.heap.size w w' := by
  cases b
  · go_enter Tryz.func149, Tryz.ntmps149
    go_wp2
    exact bodyPost_ret (v := pl 1 0 ⟨#[]⟩) (by simp [results, Tryz.results149, go_sem]) rfl ⟨rfl, by go_grown⟩
  · go_enter Tryz.func149, Tryz.ntmps149
    go_wp2
    exact bodyPost_ret (v := pl 1 1 ⟨#[]⟩) (by simp [results, Tryz.results149, go_sem]) rfl ⟨rfl, by go_grown⟩
theorem plain_d (n : Int) (w : World) : Calls Tryz.prog 151 #[.int .i64 n] w fun e w' => e = .returned (pl 2 n ⟨#[]⟩) ∧ Below w.heap.size w w' := by
  go_enter Tryz.func151, Tryz.ntmps151
  go_wp2
  exact bodyPost_ret (v := pl 2 n ⟨#[]⟩) (by simp [results, Tryz.results151, go_sem]) rfl ⟨rfl, by go_grown⟩
theorem plain_t (t : ByteArray) (w : World) : Calls Tryz.prog 153 #[.string t] w fun e w' => e = .returned (pl 3 0 t) ∧ Below w.heap.size w w' := by
  go_enter Tryz.func153, Tryz.ntmps153
  go_wp2
  exact bodyPost_ret (v := pl 3 0 t) (by simp [results, Tryz.results153, go_sem]) rfl ⟨rfl, by go_grown⟩

/-! '==' at api.Value. -/
theorem compNull : (Tryz.prog.info? 169).map (·.comparable) = some true := by kernel_rfl
theorem compFlag : (Tryz.prog.info? 165).map (·.comparable) = some true := by kernel_rfl
theorem compNum : (Tryz.prog.info? 166).map (·.comparable) = some true := by kernel_rfl
theorem compText : (Tryz.prog.info? 167).map (·.comparable) = some true := by kernel_rfl

theorem eql_same_type {tx : TypeId} {vx vy : Value} {b : Bool} (w : World) (hc : (Tryz.prog.info? tx).map (·.comparable) = some true)
    (h : ∀ d : Nat, (Op.equalIn (d + 1) tx vx vy).run Tryz.prog w = .ok b w) : (binOp .eql 150 (.iface tx vx) (.iface tx vy)).run Tryz.prog w = .ok (.bool b) w := by
  cases hi : Tryz.prog.info? tx with
  | none => simp [hi] at hc
  | some i =>
    have hcc : i.comparable = true := by simpa [hi] using hc
    have h2 : ∀ d : Nat, (Op.equalIn (d + 2) 150 (.iface tx vx) (.iface tx vy)).run Tryz.prog w = .ok b w := fun d => by
      rw [Op.equalIn]
      simp [run_underlying Tryz.underlying150, typeInfo, hi, hcc, h d]
    simp only [binOp]
    simp [Op.equal, Op.maxDepth, h2 9998]

theorem eql_null (w : World) : (binOp .eql 150 (.iface 169 (.agg #[])) (.iface 169 (.agg #[]))).run Tryz.prog w = .ok (.bool true) w :=
  eql_same_type w compNull fun d => by
    rw [run_equalIn_agg w d 169 _ _ (by kernel_rfl) (by kernel_rfl)]
    simp [Program.fieldsOf, Tryz.underlying169, Op.eqFields]
theorem eql_flag (a b : Bool) (w : World) : (binOp .eql 150 (.iface 165 (.bool a)) (.iface 165 (.bool b))).run Tryz.prog w = .ok (.bool (a == b)) w :=
  eql_same_type w compFlag fun d => run_equalIn_bool' w d _ a b Tryz.underlying165
theorem eql_num (a b : Int) (w : World) : (binOp .eql 150 (.iface 166 (.int .i64 a)) (.iface 166 (.int .i64 b))).run Tryz.prog w = .ok (.bool (a == b)) w :=
  eql_same_type w compNum fun d => run_equalIn_int w d _ .i64 .i64 a b Tryz.underlying166
theorem eql_text (a b : ByteArray) (w : World) : (binOp .eql 150 (.iface 167 (.string a)) (.iface 167 (.string b))).run Tryz.prog w = .ok (.bool (a.toList == b.toList)) w :=
  eql_same_type w compText fun d => run_equalIn_string w d _ a b Tryz.underlying167
theorem eql_types {tx ty : TypeId} (vx vy : Value) (h : tx ≠ ty) (w : World) : (binOp .eql 150 (.iface tx vx) (.iface ty vy)).run Tryz.prog w = .ok (.bool false) w :=
  run_eql_iface_types tx ty vx vy Tryz.underlying150 h w
end Go.Proofs.YtfllomfjhkgaoaaGreatDoor

/- What content.Cells and content.Newlines answer. -/
namespace Go.Proofs.YtfllomfjhkgaoaaGreatDoor
open Go Go.RowKit Go.Lib
set_option linter.unusedVariables false

/-- An insert's cells. -/
def cellsOf (o : Op5) : List C5 := if o.k = 1 then mkC o.A (scs o.t.data.toList) else [(-1, o.t, o.v, o.A)]
theorem cellsOf_len (o : Op5) : (cellsOf o).length = lenO o := by
  unfold cellsOf lenO
  split
  · exact mkC_len _ _
  · rfl
theorem cellsOf_A (o : Op5) : ∀ e ∈ cellsOf o, e.2.2.2 = o.A := fun e he => by
  unfold cellsOf at he
  split at he
  · unfold mkC at he
    obtain ⟨r, _, rfl⟩ := List.mem_map.1 he
    rfl
  · obtain rfl := List.mem_singleton.1 he
    rfl
theorem own_oneC (w : World) (B : Nat) (hB : B ≤ w.heap.size) (d : CV) : OwnC (w.alloc (.cells (ceC d) 59)) B (.slice (some ⟨w.heap.size, 0, none⟩) 1 1) [d] :=
  ⟨rfl, Or.inr ⟨w.heap.size, 1, ceC d, rfl, hB, by show (w.heap.push _)[w.heap.size]? = _; simp, Nat.le_refl _, by decide, rfl, rfl⟩⟩

/-- How many newlines an insert has. -/
def newlO (o : Op5) : Nat := if o.k = 1 then countByte o.t.data.toList 10 else 0

theorem plain_f0 (w : World) : Calls Tryz.prog 149 #[.bool false] w fun e w' => e = .returned (pl 1 0 ⟨#[]⟩) ∧ Below w.heap.size w w' := plain_f false w
theorem plain_f1 (w : World) : Calls Tryz.prog 149 #[.bool true] w fun e w' => e = .returned (pl 1 1 ⟨#[]⟩) ∧ Below w.heap.size w w' := plain_f true w

end Go.Proofs.YtfllomfjhkgaoaaGreatDoor

/- vellumlaw04.lives. -/
namespace Go.Proofs.YtfllomfjhkgaoaaGreatDoor
open Go Go.RowKit Go.Lib
set_option linter.unusedVariables false

abbrev tA : ByteArray := ⟨#[97, 195, 169, 226, 130, 172]⟩
abbrev tH : ByteArray := ⟨#[97, 195, 169]⟩
abbrev tR : ByteArray := ⟨#[226, 130, 172]⟩
abbrev tX : ByteArray := ⟨#[120]⟩
abbrev tB : ByteArray := ⟨#[98, 10]⟩
abbrev txO (t : ByteArray) : Op5 := ⟨1, t, z0, 0, []⟩
abbrev exO (t : ByteArray) : Op5 := ⟨2, t, z0, 0, []⟩
theorem ins_tx (t : ByteArray) (h1 : t.toList.isEmpty = false) (h2 : brk t.data.toList = t.size) : Ins (txO t) := ⟨Or.inl ⟨rfl, rfl⟩, h1, rfl, h2, chk_z0, rfl⟩
theorem ins_ex (t : ByteArray) (h1 : t.toList.isEmpty = false) (h2 : brk t.data.toList = t.size) (h3 : t.size ≤ 64) : Ins (exO t) := ⟨Or.inr ⟨rfl, h3⟩, h1, rfl, h2, chk_z0, rfl⟩
theorem fit_tx (k : Int) (t : ByteArray) (h : t.size ≤ 8388608) : Fit ⟨k, t, z0, 0, []⟩ := ⟨h, by show (0 : Nat) ≤ 1048576; decide, fun q hq => (by cases hq), by show (0 : Nat) ≤ 1048576; decide⟩
theorem iA : Ins (txO tA) := ins_tx _ (by rw [toList_data]; rfl) (by kernel_rfl)
theorem iH : Ins (txO tH) := ins_tx _ (by rw [toList_data]; rfl) (by kernel_rfl)
theorem iR : Ins (txO tR) := ins_tx _ (by rw [toList_data]; rfl) (by kernel_rfl)
theorem iB : Ins (txO tB) := ins_tx _ (by rw [toList_data]; rfl) (by kernel_rfl)
theorem iX : Ins (exO tX) := ins_ex _ (by rw [toList_data]; rfl) (by kernel_rfl) (by decide)
theorem scsA : scs tA.data.toList = [97, 233, 8364] := by kernel_rfl
theorem scsB : scs tB.data.toList = [98, 10] := by kernel_rfl
theorem posA : pos (scs tA.data.toList) 2 = 3 := by rw [scsA]; kernel_rfl
theorem extH : tA.extract 0 3 = tH := by kernel_rfl
theorem extR : tA.extract 3 tA.size = tR := by kernel_rfl
theorem catA : tH ++ tR = tA := by kernel_rfl
theorem newlB : newlO (txO tB) = 1 := by kernel_rfl
theorem lenX : lenO (exO tX) = 1 := rfl
theorem RN.val0 {w : World} {v : Value} (h : RN w v []) : ∃ p c, v = .slice p 0 c := by
  obtain ⟨p, c, h, _⟩ := h.row.val
  exact ⟨p, c, h⟩

end Go.Proofs.YtfllomfjhkgaoaaGreatDoor

/- Joins of inserts, purely; Join at all operations. -/
namespace Go.Proofs.YtfllomfjhkgaoaaGreatDoor
open Go Go.RowKit Go.Lib
set_option linter.unusedVariables false

theorem chkP_le (p : P3) : chkP p ≤ 10 := chk_le _ _ _
theorem listE_le' (nulls : Bool) : ∀ (L : List A2) (pv : Option ByteArray), listE nulls pv L ≤ 10
  | [], _ => Nat.zero_le _
  | q :: r, pv => by
    have hp : pairE q ≤ 10 := by
      unfold pairE
      split
      · omega
      · split
        · omega
        · exact chk_le _ _ _
    rw [listE]
    split
    · split
      · omega
      · split
        · exact listE_le' nulls r _
        · omega
    · exact hp
theorem insE_le19 (o : Op5) : insE o ≤ 19 := by
  have := insE_le o (fun L => listE_le' false L none)
  omega
theorem joinE_le (o o' : Op5) : joinE o o' ≤ 19 := by
  unfold joinE
  have := insE_le19 o
  have := insE_le19 o'
  split <;> omega
def jB (o o' : Op5) : Bool := decide (joinE o o' = 0) && joinB o o'
def jR (o o' : Op5) : Op5 := if jB o o' = true then joinO o o' else opZ
theorem jB_yes {o o' : Op5} (h : jB o o' = true) : Ins o ∧ Ins o' ∧ o.k = 1 ∧ o'.k = 1 ∧ o.A = o'.A := by
  unfold jB joinB joinE at h
  simp only [Bool.and_eq_true, decide_eq_true_eq] at h
  obtain ⟨h1, h2, h3, h4⟩ := h
  by_cases hi : insE o = 0
  · rw [if_pos hi] at h1
    exact ⟨ins_of hi, ins_of h1, h2, h3, h4⟩
  · rw [if_neg hi] at h1
    exact absurd h1 hi
theorem jB_of {o o' : Op5} (h : Ins o) (h' : Ins o') (hk : o.k = 1) (hk' : o'.k = 1) (hA : o.A = o'.A) : jB o o' = true := by
  unfold jB joinB joinE
  simp [h.zero, h'.zero, hk, hk', hA]
theorem jB_no {o o' : Op5} (h : ¬ (o.k = 1 ∧ o'.k = 1 ∧ o.A = o'.A)) : jB o o' = false := by
  cases hj : jB o o'
  · rfl
  · obtain ⟨_, _, h1, h2, h3⟩ := jB_yes hj
    exact absurd ⟨h1, h2, h3⟩ h
theorem jB_err {o o' : Op5} {e : Nat} (h : joinE o o' = e + 1) : jB o o' = false := by
  unfold jB
  simp [h]
theorem isEmp_size {t : ByteArray} (h : t.toList.isEmpty = false) : 0 < t.size := by
  rcases Nat.eq_zero_or_pos t.size with h0 | h0
  · exfalso
    have : t.toList = [] := by rw [toList_data]; exact List.eq_nil_of_length_eq_zero (by rw [size_toList]; exact h0)
    rw [this] at h; cases h
  · exact h0
theorem size_isEmp {t : ByteArray} (h : 0 < t.size) : t.toList.isEmpty = false := by
  cases he : t.toList.isEmpty
  · rfl
  · rw [emp_iff] at he
    subst he
    exact absurd h (by decide)
theorem cat_list (a b : ByteArray) : (a ++ b).data.toList = a.data.toList ++ b.data.toList := by rw [ByteArray.data_append, Array.toList_append]
theorem scs_cat {a b : List UInt8} (ha : brk a = a.length) (hb : brk b = b.length) : scs (a ++ b) = scs a ++ scs b ∧ brk (a ++ b) = (a ++ b).length := by
  have ea := valid_of_brk ha
  have eb := valid_of_brk hb
  obtain ⟨_, h1, _, _⟩ := text_cases a
  obtain ⟨_, h2, _, _⟩ := text_cases b
  have h12 : ∀ r ∈ scs a ++ scs b, scal r := fun r hr => by
    rcases List.mem_append.1 hr with h | h
    · exact h1 r h
    · exact h2 r h
  have e : a ++ b = encs (scs a ++ scs b) ++ [] := by
    rw [List.append_nil, encs_append, ← ea, ← eb]
  refine ⟨?_, ?_⟩
  · conv => lhs; rw [e]
    exact scs_eq h12 (Or.inl rfl)
  · conv => lhs; rw [e]
    rw [brk_eq h12 (Or.inl rfl), encs_append, ← ea, ← eb]
theorem ins_join {o o' : Op5} (h : Ins o) (h' : Ins o') : Ins (joinO o o') := by
  have hs : (o.t ++ o'.t).size = o.t.size + o'.t.size := ByteArray.size_append
  refine ⟨Or.inl ⟨rfl, rfl⟩, size_isEmp ?_, rfl, ?_, chk_z0, h.set⟩
  · have := isEmp_size h.full
    show 0 < (o.t ++ o'.t).size
    omega
  · show brk (o.t ++ o'.t).data.toList = (o.t ++ o'.t).size
    rw [cat_list, (scs_cat (by rw [h.utf, size_toList]) (by rw [h'.utf, size_toList])).2, List.length_append, size_toList, size_toList, hs]
theorem cells_join {o o' : Op5} (h : Ins o) (h' : Ins o') (hk : o.k = 1) (hk' : o'.k = 1) (hA : o.A = o'.A) : cellsOf (joinO o o') = cellsOf o ++ cellsOf o' := by
  unfold cellsOf
  rw [if_pos (show (joinO o o').k = 1 from rfl), if_pos hk, if_pos hk', ← hA]
  show mkC o.A (scs (o.t ++ o'.t).data.toList) = _
  rw [cat_list, (scs_cat (by rw [h.utf, size_toList]) (by rw [h'.utf, size_toList])).1]
  simp [mkC]
theorem join_assoc (x y z : Op5) : joinO (joinO x y) z = joinO x (joinO y z) := by
  unfold joinO
  simp only [ByteArray.append_assoc]
theorem fit_join {o o' : Op5} (h : Fit o) (hs : o.t.size + o'.t.size ≤ 8388608) : Fit (joinO o o') := ⟨by show (o.t ++ o'.t).size ≤ _; rw [ByteArray.size_append]; exact hs, by show (0 : Nat) ≤ 1048576; decide, h.A, h.n⟩
theorem fit_Z : Fit opZ := ⟨by show (0 : Nat) ≤ 8388608; decide, by show (0 : Nat) ≤ 1048576; decide, fun q hq => (by cases hq), by show (0 : Nat) ≤ 1048576; decide⟩

end Go.Proofs.YtfllomfjhkgaoaaGreatDoor

/- What vellumref04.copied and vellumref04.Join answer. -/
namespace Go.Proofs.YtfllomfjhkgaoaaGreatDoor
open Go Go.RowKit Go.Lib
set_option linter.unusedVariables false
end Go.Proofs.YtfllomfjhkgaoaaGreatDoor

/- What vellumref04.Length answers of inserts. -/
namespace Go.Proofs.YtfllomfjhkgaoaaGreatDoor
open Go Go.RowKit Go.Lib
set_option linter.unusedVariables false
end Go.Proofs.YtfllomfjhkgaoaaGreatDoor

/- What vellumref04.Length, Cells and Newlines answer of inserts. -/
namespace Go.Proofs.YtfllomfjhkgaoaaGreatDoor
open Go Go.RowKit Go.Lib
set_option linter.unusedVariables false

theorem ub10 (z : Int) (h : 128 ≤ z) (h1 : z < 256) : ¬ z.toNat.toUInt8 = 10 := fun e => by
  have := congrArg UInt8.toNat e
  rw [u8_nat z (by omega) h1] at this
  simp at this
  omega
theorem count_enc {r : Nat} (h : scal r) : (enc r).count 10 = if r = 10 then 1 else 0 := by
  have h' := h
  unfold scal at h'
  by_cases h1 : r < 128
  · rw [enc_one h1]
    by_cases h0 : r = 10
    · subst h0; rfl
    · rw [if_neg h0, List.count_eq_zero]
      intro hm
      have e := congrArg UInt8.toNat (List.mem_singleton.1 hm)
      rw [u8_nat _ (by omega) (by omega)] at e
      simp at e
      omega
  · rw [if_neg (by omega), List.count_eq_zero]
    intro hm
    by_cases h2 : r < 2048
    · rw [enc_two (by omega) h2] at hm
      simp only [List.mem_cons, List.not_mem_nil, or_false] at hm
      rcases hm with e | e <;> exact ub10 _ (by omega) (by omega) e.symm
    by_cases h3 : r < 65536
    · rw [enc_three (by omega) h3 h] at hm
      simp only [List.mem_cons, List.not_mem_nil, or_false] at hm
      rcases hm with e | e | e <;> exact ub10 _ (by omega) (by omega) e.symm
    · rw [enc_four (by omega) (by omega)] at hm
      simp only [List.mem_cons, List.not_mem_nil, or_false] at hm
      rcases hm with e | e | e | e <;> exact ub10 _ (by omega) (by omega) e.symm
theorem count_encs : ∀ (rs : List Nat), (∀ r ∈ rs, scal r) → (encs rs).count 10 = rs.countP (fun r => ((r : Nat) : Int) == 10)
  | [], _ => rfl
  | r :: rs, h => by
    rw [encs, List.count_append, count_enc (h r (by simp)), count_encs rs (fun x hx => h x (by simp [hx])), List.countP_cons]
    by_cases h0 : r = 10
    · subst h0; simp; omega
    · have : (((r : Nat) : Int) == 10) = false := by simp; omega
      rw [if_neg h0, this]
      simp
/-- How many cells of a list are newlines. -/
def newlC (L : List C5) : Nat := L.countP fun e => e.1 == 10
theorem newlC_of {o : Op5} (h : Ins o) : newlC (cellsOf o) = newlO o := by
  unfold newlC cellsOf newlO
  split
  · obtain ⟨h1, h2, _⟩ := valid_text o.t h.utf
    unfold mkC countByte
    rw [List.countP_map]
    conv => rhs; rw [h2]
    rw [count_encs _ h1]
    rfl
  · rfl
theorem newlC_le (L : List C5) : newlC L ≤ L.length := List.countP_le_length

/-- All blocks of numbers are as they were. -/
def Keep32 (w w' : World) : Prop := ∀ (k : Nat) (cur : Array Value), w.heap[k]? = some (.cells cur 21 (0, 0)) → w'.heap[k]? = w.heap[k]?
theorem keep32_below {w w' : World} (hb : Below w.heap.size w w') : Keep32 w w' := fun k cur hk => hb.block k (Array.getElem?_eq_some_iff.1 hk).1
theorem keep32_own {w w' : World} {B : Nat} {v : Value} {zs : List Int} (h : Own32 B w v zs) (hk : Keep32 w w') : Own32 B w' v zs := by
  obtain ⟨hl, h⟩ := h
  refine ⟨hl, ?_⟩
  rcases h with h | ⟨g, cap, cur, h1, h2, h3, h4⟩
  · exact Or.inl h
  · exact Or.inr ⟨g, cap, cur, h1, h2, (hk g cur h3).trans h3, h4⟩
theorem keep32_grown {w w' : World} {B : Nat} {v : Value} {D : List CV} (h : OwnC w B v D) (g : w.grownBy w' v.ownBlock) : Keep32 w w' := fun k cur hk => by
  refine g.block k (Array.getElem?_eq_some_iff.1 hk).1 fun e => ?_
  rcases h.2 with ⟨rfl, _⟩ | ⟨b, cap, cur', rfl, _, h3, _⟩
  · cases e
  · simp only [Value.ownBlock, Option.some.injEq] at e
    subst e
    rw [h3] at hk
    simp only [Option.some.injEq, Obj.cells.injEq] at hk
    exact absurd hk.2.1 (by decide)

end Go.Proofs.YtfllomfjhkgaoaaGreatDoor

/- What vellumref04.Cells answers of embeds, and vellumref04.Newlines. -/
namespace Go.Proofs.YtfllomfjhkgaoaaGreatDoor
open Go Go.RowKit Go.Lib
set_option linter.unusedVariables false
end Go.Proofs.YtfllomfjhkgaoaaGreatDoor

/- ops.Same and the document's Same: two lists, one by one. -/
namespace Go.Proofs.YtfllomfjhkgaoaaGreatDoor
open Go Go.RowKit Go.Lib
set_option linter.unusedVariables false

theorem take_eq_snoc {E E' : List Op5} {k : Nat} {e e' : Op5} (h : E.take k = E'.take k) (h1 : E[k]? = some e) (h2 : E'[k]? = some e') (he : e = e') : E.take (k + 1) = E'.take (k + 1) := by
  rw [List.take_add_one, List.take_add_one, h, h1, h2, he]
theorem ne_at {E E' : List Op5} {k : Nat} {e e' : Op5} (h1 : E[k]? = some e) (h2 : E'[k]? = some e') (he : e ≠ e') : E ≠ E' := fun h => by
  rw [h, h2] at h1; exact he (Option.some.inj h1).symm

set_option maxHeartbeats 2000000 in
set_option maxRecDepth 100000 in
theorem eqF_any (v v' : Value) (E E' : List Op5) (w : World) (h : ReO w v E) (h' : ReO w v' E') (hl : E.length ≤ 2097152) (hl' : E'.length ≤ 2097152) (hA : ∀ e ∈ E, e.A.length ≤ 1048576) (hA' : ∀ e ∈ E', e.A.length ≤ 1048576) :
    Calls Tryz.prog 65 #[v, v', .func (.func 66) #[] #[]] w fun r w' => r = .returned (.bool (decide (E = E'))) ∧ Below w.heap.size w w' := by
  obtain ⟨D, hrow, hre⟩ := h
  obtain ⟨D', hrow', hre'⟩ := h'
  have hE := forall2_len hre
  have hE' := forall2_len hre'
  obtain ⟨n, hn⟩ : ∃ n, D.length = n := ⟨_, rfl⟩
  obtain ⟨m, hm⟩ : ∃ m, D'.length = m := ⟨_, rfl⟩
  obtain ⟨pa, ca, rfl, ha, _, hca⟩ := hrow
  obtain ⟨pb, cb, rfl, hb, _, hcb⟩ := hrow'
  rw [hn] at ha hE ⊢
  rw [hm] at hb hE' ⊢
  have HN : Hid (D.length = n ∧ D'.length = m ∧ E.length = n ∧ E'.length = m) := ⟨hn, hm, hE.symm, hE'.symm⟩
  by_cases hnm : n = m
  · subst hnm
    have HA : Hid (∀ (j : Nat) (d : OV), D[j]? = some d → ∃ b off, pa = some ⟨b, off, none⟩ ∧ OpAt w b (off + j * 7) d) := hca
    have HB : Hid (∀ (j : Nat) (d : OV), D'[j]? = some d → ∃ b off, pb = some ⟨b, off, none⟩ ∧ OpAt w b (off + j * 7) d) := hcb
    have hl : n ≤ 2097152 := by omega
    have CC : Hid (∀ (k : Nat) d d', D[k]? = some d → D'[k]? = some d' → ∃ e e', E[k]? = some e ∧ E'[k]? = some e' ∧ ∀ W, Below w.heap.size w W → Calls Tryz.prog 66 #[ovV d, ovV d'] W fun r w' => r = .returned (.bool (decide (e = e'))) ∧ Below W.heap.size W w') := fun k d d' h1 h2 => by
      obtain ⟨y, hy, r1⟩ := forall2_get hre k d h1
      obtain ⟨y', hy', r2⟩ := forall2_get hre' k d' h2
      refine ⟨y, y', hy, hy', fun W hW => ?_⟩
      rw [opV_of r1, opV_of r2]
      have h3 := hA y (List.mem_of_getElem? hy)
      have h4 := hA' y' (List.mem_of_getElem? hy')
      exact sameC_any y y' _ _ W (r1.2.2.2.2.below hW).row (r2.2.2.2.2.below hW).row (by omega) (by omega)
    have eg := enters_of Tryz.func66 (by kernel_rfl) rfl
    clear hca hcb hn hm hre hre' hE hE' hA hA' hl'
    go_enter Tryz.func65, Tryz.ntmps65
    go_wp2
    go_loopw [17] (fun i wr => ∃ (k : Nat), k ≤ n ∧ i = .int .i64 k ∧ Hid (E.take k = E'.take k) ∧ Below w.heap.size w wr) (fun i _ => n - (RowKit.intOf i).toNat)
    case atStart => exact ⟨0, Nat.zero_le _, rfl, rfl, Below.refl _ _⟩
    case round =>
      obtain ⟨k, hk, rfl, HT, hbw⟩ := hrel
      by_cases hlt : k < n
      · have hltI : (k : Int) < n := by omega
        obtain ⟨d, hd⟩ : ∃ q, D[k]? = some q := ⟨_, List.getElem?_eq_getElem (by rw [HN.out.1]; exact hlt)⟩
        obtain ⟨d', hd'⟩ : ∃ q, D'[k]? = some q := ⟨_, List.getElem?_eq_getElem (by rw [HN.out.2.1]; exact hlt)⟩
        obtain ⟨e, e', he, he', cc⟩ := CC.out k d d' hd hd'
        obtain ⟨b, off, rfl, hin⟩ := HA.out k d hd
        obtain ⟨b', off', rfl, hin'⟩ := HB.out k d' hd'
        have hin := hin.below hbw
        have hin' := hin'.below hbw
        have hbb := (hbw.alloc hbw.size (.cells (ovC d) 48)).alloc (by have := hbw.size; simp; omega) (.cells (ovC d') 48)
        have c1 := cc _ hbb
        have ba : Below wr.heap.size wr (wr.alloc (.cells (ovC d) 48)) := (Below.refl _ _).alloc (Nat.le_refl _) _
        obtain ⟨c0, c1', c2, c3, c4, c5, c6⟩ := hin
        obtain ⟨d0, d1, d2, d3, d4, d5, d6⟩ := hin'.below ba
        have HEE : Hid (E[k]? = some e ∧ E'[k]? = some e') := ⟨he, he'⟩
        clear cc hd hd' he he' hin' ba
        obtain ⟨f, t, ⟨x, z, u⟩, cc1, p, j, c⟩ := d
        obtain ⟨f', t', ⟨x', z', u'⟩, cc1', p', j', c'⟩ := d'
        simp only [slV, ovC] at c0 c1' c2 c3 c4 c5 c6 d0 d1 d2 d3 d4 d5 d6 hbb
        simp only [ovV, ovC, slV] at c1
        obtain ⟨W1, hW1⟩ : ∃ W, W = wr.alloc (.cells #[.int .i64 f, .string t, .int .i64 x, .int .i64 z, .string u, .int .i64 cc1, .slice p j c] 48) := ⟨_, rfl⟩
        rw [← hW1] at d0 d1 d2 d3 d4 d5 d6 c1 hbb
        have e0 : W1.cell? ⟨wr.heap.size, 0, none⟩ = some (.int .i64 f) := by rw [hW1]; simp
        have e1 : W1.cell? ⟨wr.heap.size, 1, none⟩ = some (.string t) := by rw [hW1]; simp
        have e2 : W1.cell? ⟨wr.heap.size, 2, none⟩ = some (.int .i64 x) := by rw [hW1]; simp
        have e3 : W1.cell? ⟨wr.heap.size, 3, none⟩ = some (.int .i64 z) := by rw [hW1]; simp
        have e4 : W1.cell? ⟨wr.heap.size, 4, none⟩ = some (.string u) := by rw [hW1]; simp
        have e5 : W1.cell? ⟨wr.heap.size, 5, none⟩ = some (.int .i64 cc1) := by rw [hW1]; simp
        have e6 : W1.cell? ⟨wr.heap.size, 6, none⟩ = some (.slice p j c) := by rw [hW1]; simp
        have s1 : wr.heap.size < W1.heap.size := by rw [hW1]; simp
        have s2 : ¬ wr.heap.size = W1.heap.size := by omega
        have s3 : ¬ W1.heap.size = wr.heap.size := by omega
        by_cases hee : e = e'
        · rw [decide_eq_true hee] at c1
          have HT2 : Hid (E.take (k + 1) = E'.take (k + 1)) := take_eq_snoc HT.out HEE.out.1 HEE.out.2 hee
          clear hee HEE
          go_upto_region 6 with fail
          rw [← hW1]
          clear hW1
          go_wp2_with fail
          refine c1.mono ?_; rintro r w3 ⟨rfl, b3⟩
          have b4 := hbb.trans (b3.mono hbb.size)
          clear c1 b3 hbb c0 c1' c2 c3 c4 c5 c6 d0 d1 d2 d3 d4 d5 d6 e0 e1 e2 e3 e4 e5 e6
          go_wp2
          go_roundw
          case rel => exact ⟨k + 1, by omega, by go_num, HT2, b4⟩
          case measure => simp [RowKit.intOf]; omega
        · rw [decide_eq_false hee] at c1
          have hfin : Hid (decide (E = E') = false) := decide_eq_false (ne_at HEE.out.1 HEE.out.2 hee)
          clear hee HEE
          go_upto_region 6 with fail
          rw [← hW1]
          clear hW1
          go_wp2_with fail
          refine c1.mono ?_; rintro r w3 ⟨rfl, b3⟩
          have b4 := hbb.trans (b3.mono hbb.size)
          clear c1 b3 hbb c0 c1' c2 c3 c4 c5 c6 d0 d1 d2 d3 d4 d5 d6 e0 e1 e2 e3 e4 e5 e6
          go_wp2
          go_ret
          exact ⟨by rw [hfin.out]; rfl, b4⟩
      · have hltI : ¬ (k : Int) < n := by omega
        have hfin : Hid (decide (E = E') = true) := decide_eq_true (by
          have := HT.out
          rwa [List.take_of_length_le (by rw [HN.out.2.2.1]; omega), List.take_of_length_le (by rw [HN.out.2.2.2]; omega)] at this)
        go_wp2
        go_ret
        exact ⟨by rw [hfin.out]; rfl, hbw⟩
  · have hne : ((n : Int) != m) = true := by simp; omega
    have hfin : Hid (decide (E = E') = false) := decide_eq_false (fun h => hnm (by rw [← HN.out.2.2.1, ← HN.out.2.2.2, h]))
    clear hca hcb hn hm hre hre' hE hE' hA hA' hnm HN hl hl'
    go_enter Tryz.func65, Tryz.ntmps65
    go_wp2
    go_ret
    exact ⟨by rw [hfin.out]; rfl, Below.refl _ _⟩
set_option maxHeartbeats 1000000 in
theorem sameL_any (v v' : Value) (E E' : List Op5) (w : World) (h : ReO w v E) (h' : ReO w v' E') (hl : E.length ≤ 2097152) (hl' : E'.length ≤ 2097152) (hA : ∀ e ∈ E, e.A.length ≤ 1048576) (hA' : ∀ e ∈ E', e.A.length ≤ 1048576) :
    Calls Tryz.prog 41 #[v, v'] w fun r w' => r = .returned (.bool (decide (E = E'))) ∧ Below w.heap.size w w' := by
  have c := eqF_any v v' E E' w h h' hl hl' hA hA'
  obtain ⟨D, ⟨pa, ca, rfl, _, _, _⟩, _⟩ := h
  obtain ⟨D', ⟨pb, cb, rfl, _, _, _⟩, _⟩ := h'
  generalize decide (E = E') = R at c ⊢
  clear hA hA'
  go_enter Tryz.func41, Tryz.ntmps41
  go_wp2_with fail
  refine c.mono ?_; rintro r w2 ⟨rfl, hb2⟩
  go_wp2
  go_ret
  exact ⟨rfl, hb2⟩

end Go.Proofs.YtfllomfjhkgaoaaGreatDoor

/- ops: lengths of pieces, their sums; ops.Lengths. -/
namespace Go.Proofs.YtfllomfjhkgaoaaGreatDoor
open Go Go.RowKit Go.Lib
set_option linter.unusedVariables false

def baseO (o : Op5) : Int := if o.k = 3 ∨ o.k = 4 then len5 o else 0
def resO (o : Op5) : Int := if o.k = 4 then 0 else len5 o
/-- The sums of lengths, asked at each operation. -/
def sumL : Int → Int → List Op5 → Int × Int × Nat
  | b, r, [] => (b, r, 0)
  | b, r, o :: L => if 1099511627776 < b + baseO o ∨ 1099511627776 < r + resO o then (0, 0, 11) else sumL (b + baseO o) (r + resO o) L
/-- What Lengths answers. -/
def lensL (E : List Op5) : Int × Int × Nat := if (badP E).2 ≠ 0 then (0, 0, (badP E).2) else sumL 0 0 E
theorem len5_range {o : Op5} (h : opE o = 0) (f : Fit o) : 0 ≤ len5 o ∧ len5 o ≤ 1099511627776 := by
  unfold len5
  rcases op_good h with ⟨hi, hk⟩ | ⟨hc, hl, hk⟩ | ⟨hc, hA, hk⟩
  · rw [if_pos hk]
    unfold lenO
    split
    · have := (valid_text o.t hi.utf).2.2
      have := f.t
      omega
    · omega
  · rw [if_neg (by omega)]
    have := hc.lo
    have := hc.hi
    omega
  · rw [if_neg (by omega)]
    have := hc.lo
    have := hc.hi
    omega
theorem base_range {o : Op5} (h : opE o = 0) (f : Fit o) : 0 ≤ baseO o ∧ baseO o ≤ 1099511627776 := by
  have := len5_range h f
  unfold baseO
  split <;> omega
theorem res_range {o : Op5} (h : opE o = 0) (f : Fit o) : 0 ≤ resO o ∧ resO o ≤ 1099511627776 := by
  have := len5_range h f
  unfold resO
  split <;> omega
theorem kinds_of {o : Op5} (h : opE o = 0) : o.k = 1 ∨ o.k = 2 ∨ o.k = 3 ∨ o.k = 4 := by
  rcases op_good h with ⟨_, hk⟩ | ⟨_, _, hk⟩ | ⟨_, _, hk⟩ <;> omega

theorem as_i_r (v : Value) (W : World) : (Instr.typeAssert (.iface 125 v) 87 117 true).run Tryz.prog W = .ok (.tuple #[.agg #[.slice none 0 0, .int .i64 0], .bool false]) W := by kernel_rfl
theorem as_e_r (v : Value) (W : World) : (Instr.typeAssert (.iface 157 v) 87 117 true).run Tryz.prog W = .ok (.tuple #[.agg #[.slice none 0 0, .int .i64 0], .bool false]) W := by kernel_rfl
theorem as_d_r (v : Value) (W : World) : (Instr.typeAssert (.iface 89 v) 87 117 true).run Tryz.prog W = .ok (.tuple #[.agg #[.slice none 0 0, .int .i64 0], .bool false]) W := by kernel_rfl
theorem as_r_r (v : Value) (W : World) : (Instr.typeAssert (.iface 117 v) 87 117 true).run Tryz.prog W = .ok (.tuple #[v, .bool true]) W := by kernel_rfl
theorem as_i_d (v : Value) (W : World) : (Instr.typeAssert (.iface 125 v) 87 89 true).run Tryz.prog W = .ok (.tuple #[.agg #[.int .i64 0], .bool false]) W := by kernel_rfl
theorem as_e_d (v : Value) (W : World) : (Instr.typeAssert (.iface 157 v) 87 89 true).run Tryz.prog W = .ok (.tuple #[.agg #[.int .i64 0], .bool false]) W := by kernel_rfl
theorem as_r_d (v : Value) (W : World) : (Instr.typeAssert (.iface 117 v) 87 89 true).run Tryz.prog W = .ok (.tuple #[.agg #[.int .i64 0], .bool false]) W := by kernel_rfl
theorem as_d_d (v : Value) (W : World) : (Instr.typeAssert (.iface 89 v) 87 89 true).run Tryz.prog W = .ok (.tuple #[v, .bool true]) W := by kernel_rfl
theorem as_r_i (v : Value) (W : World) : (Instr.typeAssert (.iface 117 v) 87 125 true).run Tryz.prog W = .ok (.tuple #[.agg #[.slice none 0 0, .string ⟨#[]⟩, .int .i64 0], .bool false]) W := by kernel_rfl
theorem as_d_i (v : Value) (W : World) : (Instr.typeAssert (.iface 89 v) 87 125 true).run Tryz.prog W = .ok (.tuple #[.agg #[.slice none 0 0, .string ⟨#[]⟩, .int .i64 0], .bool false]) W := by kernel_rfl
theorem as_i_b (v : Value) (W : World) : (Instr.typeAssert (.iface 125 v) 87 132 true).run Tryz.prog W = .ok (.tuple #[.iface 125 v, .bool true]) W := by kernel_rfl
theorem as_e_b (v : Value) (W : World) : (Instr.typeAssert (.iface 157 v) 87 132 true).run Tryz.prog W = .ok (.tuple #[.iface 157 v, .bool true]) W := by kernel_rfl
theorem as_r_b (v : Value) (W : World) : (Instr.typeAssert (.iface 117 v) 87 132 true).run Tryz.prog W = .ok (.tuple #[.iface 117 v, .bool true]) W := by kernel_rfl
theorem as_d_b (v : Value) (W : World) : (Instr.typeAssert (.iface 89 v) 87 132 true).run Tryz.prog W = .ok (.tuple #[.nilIface, .bool false]) W :=
  run_typeAssert_lacksB Tryz.underlying132 (by kernel_rfl) (by kernel_rfl) v _ W

theorem rlen_any (s : Value) (n : Int) (w : World) : Calls Tryz.prog 142 #[.agg #[s, .int .i64 n]] w fun e w' => e = .returned (.int .i64 n) ∧ Below w.heap.size w w' := by
  go_enter Tryz.func142, Tryz.ntmps142
  go_wp2
  go_ret
  exact ⟨rfl, (Below.refl _ _).alloc (Nat.le_refl _) _⟩
theorem dlen_any (n : Int) (w : World) : Calls Tryz.prog 139 #[.agg #[.int .i64 n]] w fun e w' => e = .returned (.int .i64 n) ∧ Below w.heap.size w w' := by
  go_enter Tryz.func139, Tryz.ntmps139
  go_wp2
  go_ret
  exact ⟨rfl, (Below.refl _ _).alloc (Nat.le_refl _) _⟩

set_option maxHeartbeats 1000000 in
theorem lensOf_any (o : Op5) (s : Value) (w : World) (hk : o.k = 1 ∨ o.k = 2 ∨ o.k = 3 ∨ o.k = 4) :
    Calls Tryz.prog 69 #[pieceQ o s] w fun r w' => r = .returned (.tuple #[.int .i64 (baseO o), .int .i64 (resO o)]) ∧ Below w.heap.size w w' := by
  unfold pieceQ baseO resO len5 lenO
  obtain ⟨V, hV⟩ : ∃ V, valP o.v = V := ⟨_, rfl⟩
  rw [hV]
  clear hV
  obtain ⟨k, t, v, c, A⟩ := o
  simp only at hk ⊢
  rcases hk with rfl | rfl | rfl | rfl
  · simp only [show ¬ ((1 : Int) = 3) by omega, show ¬ ((1 : Int) = 4) by omega, show ¬ ((1 : Int) = 2) by omega, if_true, if_false, or_false]
    have a1 := as_i_r
    have a2 := as_i_d
    go_enter Tryz.func69, Tryz.ntmps69
    go_wp2_with fail
    refine (ilen_any _ _ _ _).mono ?_; rintro r w3 ⟨rfl, hb3⟩
    go_wp2
    go_ret2
    exact ⟨rfl, hb3⟩
  · simp only [show ¬ ((2 : Int) = 3) by omega, show ¬ ((2 : Int) = 4) by omega, show ¬ ((2 : Int) = 1) by omega, if_true, if_false, or_false, or_true]
    have a1 := as_e_r
    have a2 := as_e_d
    go_enter Tryz.func69, Tryz.ntmps69
    go_wp2_with fail
    refine (elen_any _ _ _ _).mono ?_; rintro r w3 ⟨rfl, hb3⟩
    go_wp2
    go_ret2
    exact ⟨rfl, hb3⟩
  · simp only [show ¬ ((3 : Int) = 1) by omega, show ¬ ((3 : Int) = 2) by omega, show ¬ ((3 : Int) = 4) by omega, if_true, if_false, or_false]
    have a1 := as_r_r
    go_enter Tryz.func69, Tryz.ntmps69
    go_wp2_with fail
    refine (rlen_any _ _ _).mono ?_; rintro r w3 ⟨rfl, hb3⟩
    go_wp2_with fail
    refine (rlen_any _ _ _).mono ?_; rintro r w4 ⟨rfl, hb4⟩
    have b4 := hb3.trans (hb4.mono hb3.size)
    go_wp2
    go_ret2
    exact ⟨rfl, b4⟩
  · simp only [show ¬ ((4 : Int) = 1) by omega, show ¬ ((4 : Int) = 2) by omega, show ¬ ((4 : Int) = 3) by omega, if_true, if_false, or_false, or_true]
    have a1 := as_d_r
    have a2 := as_d_d
    go_enter Tryz.func69, Tryz.ntmps69
    go_wp2_with fail
    refine (dlen_any _ _).mono ?_; rintro r w3 ⟨rfl, hb3⟩
    go_wp2
    go_ret2
    exact ⟨rfl, hb3⟩

theorem oneI {P : List Value} {w : World} {B : Nat} {E : List Op5} (h : PieD w B P E) {k : Nat} {x : Value} (hx : P[k]? = some x) : ∃ e s, E[k]? = some e ∧ x = pieceQ e s ∧ OwnA w B s e.A := by
  obtain ⟨e, he, s, h1, h2⟩ := forall2_get h k x hx
  exact ⟨e, s, he, h1, h2⟩
set_option maxHeartbeats 2000000 in
set_option maxRecDepth 100000 in
theorem sum_any {I : List Nat} {a : Nat → Addr} (v : Value) (P : List Value) (E : List Op5) (B : Nat) (w : World) (hI : ∀ i ∈ IxO, i ∈ I) (hS : Std I a w) (hv : OwnI w B v P) (hp : PieD w B P E) (hg : ∀ o ∈ E, opE o = 0) (hF : FitL E) (hl : E.length ≤ 1048576) :
    Calls Tryz.prog 54 #[v] w fun r w' => r = .returned (.tuple #[.int .i64 (sumL 0 0 E).1, .int .i64 (sumL 0 0 E).2.1, errOf a (sumL 0 0 E).2.2]) ∧ Below w.heap.size w w' := by
  obtain ⟨n, hn⟩ : ∃ n, P.length = n := ⟨_, rfl⟩
  have hPE := forall2_len hp
  obtain ⟨p, cap, rfl⟩ := own_slice hv
  rw [hn] at hv ⊢
  have hl : n ≤ 1048576 := by omega
  have HV : Hid (∀ k, k < n → ∃ ga e s, p = some ⟨ga, 0, none⟩ ∧ E[k]? = some e ∧ w.cell? ⟨ga, k, none⟩ = some (pieceQ e s) ∧ opE e = 0 ∧ Fit e) := fun k hk => by
    obtain ⟨g, c, x, hv', hB, hx, hc⟩ := own_cell hv k (by omega)
    obtain ⟨e, s, he, rfl, _⟩ := oneI hp hx
    simp only [Value.slice.injEq] at hv'
    exact ⟨g, e, s, hv'.1, he, hc, hg e (List.mem_of_getElem? he), hF e (List.mem_of_getElem? he)⟩
  have HN : Hid (E.length = n) := by show _ = _; omega
  have HG : Hid (∀ W, Below w.heap.size w W → W.cell? ⟨11, 0, none⟩ = some (errV a 10)) := fun W hW => (hS.below hW).er.cell 10 (hI 10 (by simp))
  obtain ⟨b9, r9, e9, h9⟩ : ∃ b r e, sumL 0 0 E = (b, r, e) := ⟨_, _, _, rfl⟩
  rw [h9]
  have H9 : Hid (sumL 0 0 (E.drop 0) = (b9, r9, e9)) := by show _ = _; rw [List.drop_zero]; exact h9
  clear hS hv hp hg hF hn hPE h9
  go_enter Tryz.func54, Tryz.ntmps54
  go_wp2
  go_loopw [2, 3, 11] (fun bs rs i wr => ∃ (k : Nat) (b r : Int), k ≤ n ∧ i = .int .i64 k ∧ bs = .int .i64 b ∧ rs = .int .i64 r ∧ 0 ≤ b ∧ b ≤ 1099511627776 ∧ 0 ≤ r ∧ r ≤ 1099511627776 ∧ Hid (sumL b r (E.drop k) = (b9, r9, e9)) ∧ Below w.heap.size w wr) (fun _ _ i _ => n - (RowKit.intOf i).toNat)
  case atStart => exact ⟨0, 0, 0, Nat.zero_le _, rfl, rfl, rfl, by omega, by omega, by omega, by omega, H9, Below.refl _ _⟩
  case round =>
    clear H9
    obtain ⟨k, b, r, hk, rfl, rfl, rfl, h1, h2, h3, h4, HS, hbw⟩ := hrel
    by_cases hlt : k < n
    · have hltI : (k : Int) < n := by omega
      obtain ⟨ga, e, s, rfl, he, hc, hge, hfe⟩ := HV.out k hlt
      have c0 := (hbw.cell (lt_of_cell hc)).trans hc
      have cL := fun W => lensOf_any e s W (kinds_of hge)
      have hb1 := base_range hge hfe
      have hr1 := res_range hge hfe
      obtain ⟨bo, hbo⟩ : ∃ x, baseO e = x := ⟨_, rfl⟩
      obtain ⟨ro, hro⟩ : ∃ x, resO e = x := ⟨_, rfl⟩
      obtain ⟨u, x, hux⟩ := pieceQ_if e s
      have hdr : E.drop k = e :: E.drop (k + 1) := by
        have hlt' : k < E.length := (List.getElem?_eq_some_iff.1 he).1
        rw [List.drop_eq_getElem_cons hlt']
        congr 1
        rw [List.getElem?_eq_getElem hlt'] at he
        exact Option.some.inj he
      have HS' := HS.out
      rw [hdr, sumL, hbo, hro] at HS'
      rw [hux] at c0 cL
      rw [hbo, hro] at cL
      rw [hbo] at hb1
      rw [hro] at hr1
      obtain ⟨hb1, hb2⟩ := hb1
      obtain ⟨hr1, hr2⟩ := hr1
      by_cases hov : 1099511627776 < b + bo ∨ 1099511627776 < r + ro
      · rw [if_pos hov] at HS'
        simp only [Prod.mk.injEq] at HS'
        obtain ⟨rfl, rfl, rfl⟩ := HS'
        clear hdr he hc hge hfe hbo hro hux HS
        by_cases hov1 : 1099511627776 < b + bo
        · have hd1 : decide (1099511627776 < b + bo) = true := decide_eq_true hov1
          go_wp2_with fail
          refine (cL _).mono ?_; rintro r1 w5 ⟨rfl, hb5⟩
          have b5 := hbw.trans (hb5.mono hbw.size)
          have gL := HG.out _ b5
          clear cL c0 hb5 hov
          go_wp2
          go_quiet (fail)
          go_wp2
          go_ret3
          exact ⟨rfl, below_drewN b5 _⟩
        · have hov2 : 1099511627776 < r + ro := by rcases hov with h | h; exact absurd h hov1; exact h
          have hd1 : decide (1099511627776 < b + bo) = false := decide_eq_false hov1
          have hd2 : decide (1099511627776 < r + ro) = true := decide_eq_true hov2
          go_wp2_with fail
          refine (cL _).mono ?_; rintro r1 w5 ⟨rfl, hb5⟩
          have b5 := hbw.trans (hb5.mono hbw.size)
          have gL := HG.out _ b5
          clear cL c0 hb5 hov
          go_wp2
          go_quiet (fail)
          go_wp2
          go_ret3
          exact ⟨rfl, below_drewN b5 _⟩
      · rw [if_neg hov] at HS'
        have HS2 : Hid (sumL (b + bo) (r + ro) (E.drop (k + 1)) = (b9, r9, e9)) := HS'
        have hov1 : ¬ 1099511627776 < b + bo := fun h => hov (Or.inl h)
        have hov2 : ¬ 1099511627776 < r + ro := fun h => hov (Or.inr h)
        have hd1 : decide (1099511627776 < b + bo) = false := decide_eq_false hov1
        have hd2 : decide (1099511627776 < r + ro) = false := decide_eq_false hov2
        clear hdr he hc hge hfe hbo hro hux HS HS' hov
        go_wp2_with fail
        refine (cL _).mono ?_; rintro r1 w5 ⟨rfl, hb5⟩
        have b5 := hbw.trans (hb5.mono hbw.size)
        clear cL c0 hb5
        go_wp2
        go_roundw
        case rel => exact ⟨k + 1, b + bo, r + ro, by omega, by go_num, rfl, rfl, by omega, by omega, by omega, by omega, HS2, b5⟩
        case measure => simp [RowKit.intOf]; omega
    · have hltI : ¬ (k : Int) < n := by omega
      have HS' := HS.out
      rw [List.drop_eq_nil_of_le (by rw [HN.out]; omega), sumL] at HS'
      simp only [Prod.mk.injEq] at HS'
      obtain ⟨rfl, rfl, rfl⟩ := HS'
      clear HS
      go_wp2
      go_ret3
      exact ⟨rfl, hbw⟩
end Go.Proofs.YtfllomfjhkgaoaaGreatDoor

/- The document's deltas: Same, SameOp, Insert, Len. -/
namespace Go.Proofs.YtfllomfjhkgaoaaGreatDoor
open Go Go.RowKit Go.Lib
set_option linter.unusedVariables false

set_option maxHeartbeats 1000000 in
theorem same6o_any (o o' : Op5) (s s' : Value) (w : World) (hA : RowA w s o.A) (hB : RowA w s' o'.A) (hl : o.A.length ≤ 4194304) (hl2 : o'.A.length ≤ 4194304) :
    Calls Tryz.prog 64 #[opV o s, opV o' s'] w fun r w' => r = .returned (.bool (decide (o = o'))) ∧ Below w.heap.size w w' := by
  have b0 := ((Below.refl w.heap.size w).alloc (Nat.le_refl _) (.cells (opC o s) 48)).alloc (by simp) (.cells (opC o' s') 48)
  have cS := from_below b0 (refSame_any s s' o.A o'.A _ (hA.below b0) (hB.below b0) (by omega) (by omega))
  obtain ⟨pa, ca, rfl, _⟩ := hA.val
  obtain ⟨pb, cb, rfl, _⟩ := hB.val
  obtain ⟨k, t, ⟨x, n, u⟩, c, A⟩ := o
  obtain ⟨k', t', ⟨x', n', u'⟩, c', A'⟩ := o'
  simp only at cS
  simp only [opC] at b0 cS
  clear hA hB hl hl2
  have gd := fun op e e' w => guard_pl op e e' (x, n, u) (x', n', u') w
  by_cases hk : k = k'
  · subst hk
    by_cases ht : t = t'
    · subst ht
      have q1 := beq_key (x := t) (y := t) true (decide_eq_true rfl)
      by_cases hv : ((x, n, u) : P3) = (x', n', u')
      · have hne := eql_pl (x, n, u) (x', n', u') true (by rw [hv, samP_self])
        by_cases hc : c = c'
        · subst hc
          have hd : decide (({ k := k, t := t, v := (x, n, u), c := c, A := A } : Op5) = { k := k, t := t, v := (x', n', u'), c := c, A := A' }) = decide (A = A') := by
            simp only [Op5.mk.injEq, true_and, hv]
          rw [hd]
          generalize decide (A = A') = R at cS ⊢
          clear hd hv
          go_enter Tryz.func64, Tryz.ntmps64
          go_wp2_with fail
          refine cS.mono ?_; rintro r w2 ⟨rfl, hb2⟩
          go_wp2
          go_ret
          exact ⟨rfl, hb2⟩
        · rw [decide_eq_false (by intro e; exact hc (congrArg Op5.c e))]
          have hcc : (c == c') = false := by simpa using hc
          clear cS hv hc
          go_enter Tryz.func64, Tryz.ntmps64
          go_wp2
          go_ret
          exact ⟨rfl, b0⟩
      · rw [decide_eq_false (by intro e; exact hv (congrArg Op5.v e))]
        have hne := eql_pl (x, n, u) (x', n', u') false (samP_ne hv)
        clear cS hv
        go_enter Tryz.func64, Tryz.ntmps64
        go_wp2
        go_ret
        exact ⟨rfl, b0⟩
    · rw [decide_eq_false (by intro e; exact ht (congrArg Op5.t e))]
      have q1 := beq_key (x := t) (y := t') false (decide_eq_false ht)
      clear cS ht gd
      go_enter Tryz.func64, Tryz.ntmps64
      go_wp2
      go_ret
      exact ⟨rfl, b0⟩
  · rw [decide_eq_false (by intro e; exact hk (congrArg Op5.k e))]
    have hkk : (k == k') = false := by simpa using hk
    clear cS hk gd
    go_enter Tryz.func64, Tryz.ntmps64
    go_wp2
    go_ret
    exact ⟨rfl, b0⟩

set_option maxHeartbeats 2000000 in
set_option maxRecDepth 100000 in
theorem same6_any (v v' : Value) (E E' : List Op5) (w : World) (h : ReO w v E) (h' : ReO w v' E') (hl : E.length ≤ 2097152) (hl' : E'.length ≤ 2097152) (hA : ∀ e ∈ E, e.A.length ≤ 1048576) (hA' : ∀ e ∈ E', e.A.length ≤ 1048576) :
    Calls Tryz.prog 37 #[v, v'] w fun r w' => r = .returned (.bool (decide (E = E'))) ∧ Below w.heap.size w w' := by
  obtain ⟨D, hrow, hre⟩ := h
  obtain ⟨D', hrow', hre'⟩ := h'
  have hE := forall2_len hre
  have hE' := forall2_len hre'
  obtain ⟨n, hn⟩ : ∃ n, D.length = n := ⟨_, rfl⟩
  obtain ⟨m, hm⟩ : ∃ m, D'.length = m := ⟨_, rfl⟩
  obtain ⟨pa, ca, rfl, ha, _, hca⟩ := hrow
  obtain ⟨pb, cb, rfl, hb, _, hcb⟩ := hrow'
  rw [hn] at ha hE ⊢
  rw [hm] at hb hE' ⊢
  have HN : Hid (D.length = n ∧ D'.length = m ∧ E.length = n ∧ E'.length = m) := ⟨hn, hm, hE.symm, hE'.symm⟩
  by_cases hnm : n = m
  · subst hnm
    have HA : Hid (∀ (j : Nat) (d : OV), D[j]? = some d → ∃ b off, pa = some ⟨b, off, none⟩ ∧ OpAt w b (off + j * 7) d) := hca
    have HB : Hid (∀ (j : Nat) (d : OV), D'[j]? = some d → ∃ b off, pb = some ⟨b, off, none⟩ ∧ OpAt w b (off + j * 7) d) := hcb
    have hl : n ≤ 2097152 := by omega
    have CC : Hid (∀ (k : Nat) d d', D[k]? = some d → D'[k]? = some d' → ∃ e e', E[k]? = some e ∧ E'[k]? = some e' ∧ ∀ W, Below w.heap.size w W → Calls Tryz.prog 64 #[ovV d, ovV d'] W fun r w' => r = .returned (.bool (decide (e = e'))) ∧ Below W.heap.size W w') := fun k d d' h1 h2 => by
      obtain ⟨y, hy, r1⟩ := forall2_get hre k d h1
      obtain ⟨y', hy', r2⟩ := forall2_get hre' k d' h2
      refine ⟨y, y', hy, hy', fun W hW => ?_⟩
      rw [opV_of r1, opV_of r2]
      have h3 := hA y (List.mem_of_getElem? hy)
      have h4 := hA' y' (List.mem_of_getElem? hy')
      exact same6o_any y y' _ _ W (r1.2.2.2.2.below hW).row (r2.2.2.2.2.below hW).row (by omega) (by omega)
    clear hca hcb hn hm hre hre' hE hE' hA hA' hl'
    go_enter Tryz.func37, Tryz.ntmps37
    go_wp2
    go_loopw [13] (fun i wr => ∃ (k : Nat), k ≤ n ∧ i = .int .i64 k ∧ Hid (E.take k = E'.take k) ∧ Below w.heap.size w wr) (fun i _ => n - (RowKit.intOf i).toNat)
    case atStart => exact ⟨0, Nat.zero_le _, rfl, rfl, Below.refl _ _⟩
    case round =>
      obtain ⟨k, hk, rfl, HT, hbw⟩ := hrel
      by_cases hlt : k < n
      · have hltI : (k : Int) < n := by omega
        obtain ⟨d, hd⟩ : ∃ q, D[k]? = some q := ⟨_, List.getElem?_eq_getElem (by rw [HN.out.1]; exact hlt)⟩
        obtain ⟨d', hd'⟩ : ∃ q, D'[k]? = some q := ⟨_, List.getElem?_eq_getElem (by rw [HN.out.2.1]; exact hlt)⟩
        obtain ⟨e, e', he, he', cc⟩ := CC.out k d d' hd hd'
        obtain ⟨b, off, rfl, hin⟩ := HA.out k d hd
        obtain ⟨b', off', rfl, hin'⟩ := HB.out k d' hd'
        obtain ⟨c0, c1, c2, c3, c4, c5, c6⟩ := hin.below hbw
        obtain ⟨d0, d1, d2, d3, d4, d5, d6⟩ := hin'.below hbw
        have HEE : Hid (E[k]? = some e ∧ E'[k]? = some e') := ⟨he, he'⟩
        clear hin hin' hd hd' he he'
        obtain ⟨f, t, ⟨x, z, u⟩, cc1, p, j, c⟩ := d
        obtain ⟨f', t', ⟨x', z', u'⟩, cc1', p', j', c'⟩ := d'
        simp only [slV] at c0 c1 c2 c3 c4 c5 c6 d0 d1 d2 d3 d4 d5 d6
        simp only [ovV, ovC, slV] at cc
        have HU : Hid (∀ w', Below wr.drew.heap.size wr.drew w' → (w'.cell? ⟨b, off + k * 7, none⟩ = some (.int .i64 f) ∧ w'.cell? ⟨b, off + k * 7 + 1, none⟩ = some (.string t) ∧ w'.cell? ⟨b, off + k * 7 + 2, none⟩ = some (.int .i64 x) ∧ w'.cell? ⟨b, off + k * 7 + 3, none⟩ = some (.int .i64 z) ∧ w'.cell? ⟨b, off + k * 7 + 4, none⟩ = some (.string u) ∧ w'.cell? ⟨b, off + k * 7 + 5, none⟩ = some (.int .i64 cc1) ∧ w'.cell? ⟨b, off + k * 7 + 6, none⟩ = some (.slice p j c) ∧ w'.cell? ⟨b', off' + k * 7, none⟩ = some (.int .i64 f') ∧ w'.cell? ⟨b', off' + k * 7 + 1, none⟩ = some (.string t') ∧ w'.cell? ⟨b', off' + k * 7 + 2, none⟩ = some (.int .i64 x') ∧ w'.cell? ⟨b', off' + k * 7 + 3, none⟩ = some (.int .i64 z') ∧ w'.cell? ⟨b', off' + k * 7 + 4, none⟩ = some (.string u') ∧ w'.cell? ⟨b', off' + k * 7 + 5, none⟩ = some (.int .i64 cc1') ∧ w'.cell? ⟨b', off' + k * 7 + 6, none⟩ = some (.slice p' j' c'))) := fun w' hb => ⟨(hb.cell (lt_of_cell (w := wr.drew) c0)).trans c0, (hb.cell (lt_of_cell (w := wr.drew) c1)).trans c1, (hb.cell (lt_of_cell (w := wr.drew) c2)).trans c2, (hb.cell (lt_of_cell (w := wr.drew) c3)).trans c3, (hb.cell (lt_of_cell (w := wr.drew) c4)).trans c4, (hb.cell (lt_of_cell (w := wr.drew) c5)).trans c5, (hb.cell (lt_of_cell (w := wr.drew) c6)).trans c6, (hb.cell (lt_of_cell (w := wr.drew) d0)).trans d0, (hb.cell (lt_of_cell (w := wr.drew) d1)).trans d1, (hb.cell (lt_of_cell (w := wr.drew) d2)).trans d2, (hb.cell (lt_of_cell (w := wr.drew) d3)).trans d3, (hb.cell (lt_of_cell (w := wr.drew) d4)).trans d4, (hb.cell (lt_of_cell (w := wr.drew) d5)).trans d5, (hb.cell (lt_of_cell (w := wr.drew) d6)).trans d6⟩
        have hz0 : w.heap.size ≤ wr.drew.heap.size := hbw.size
        obtain ⟨q, hq⟩ : ∃ q, decide (e = e') = q := ⟨_, rfl⟩
        rw [hq] at cc
        have HQ : Hid (decide (e = e') = q) := hq
        clear hq
        cases q with
        | true =>
          have HT2 : Hid (E.take (k + 1) = E'.take (k + 1)) := take_eq_snoc HT.out HEE.out.1 HEE.out.2 (of_decide_eq_true HQ.out)
          go_wp2_with fail
          go_region_held3 (fun w' => (w'.cell? ⟨b, off + k * 7, none⟩ = some (.int .i64 f) ∧ w'.cell? ⟨b, off + k * 7 + 1, none⟩ = some (.string t) ∧ w'.cell? ⟨b, off + k * 7 + 2, none⟩ = some (.int .i64 x) ∧ w'.cell? ⟨b, off + k * 7 + 3, none⟩ = some (.int .i64 z) ∧ w'.cell? ⟨b, off + k * 7 + 4, none⟩ = some (.string u) ∧ w'.cell? ⟨b, off + k * 7 + 5, none⟩ = some (.int .i64 cc1) ∧ w'.cell? ⟨b, off + k * 7 + 6, none⟩ = some (.slice p j c) ∧ w'.cell? ⟨b', off' + k * 7, none⟩ = some (.int .i64 f') ∧ w'.cell? ⟨b', off' + k * 7 + 1, none⟩ = some (.string t') ∧ w'.cell? ⟨b', off' + k * 7 + 2, none⟩ = some (.int .i64 x') ∧ w'.cell? ⟨b', off' + k * 7 + 3, none⟩ = some (.int .i64 z') ∧ w'.cell? ⟨b', off' + k * 7 + 4, none⟩ = some (.string u') ∧ w'.cell? ⟨b', off' + k * 7 + 5, none⟩ = some (.int .i64 cc1') ∧ w'.cell? ⟨b', off' + k * 7 + 6, none⟩ = some (.slice p' j' c')) ∧ Below w.heap.size w w')
            (exact ⟨by first | (with_reducible assumption) | (simp [*]; done), by first | (with_reducible assumption) | exact hbw.drew⟩)
            (first | (go_at_call 64; refine (cc _ ?_).mono ?_; (· first | assumption | exact hbw.drew | (apply And.right; assumption)); rintro r w3 ⟨rfl, b3⟩; have b4 : Below w.heap.size w w3 := (hbw.drew).trans (b3.mono hz0); have mm := HU.out _ b3))
          clear cc mm b3
          go_wp2
          go_roundw
          case rel => exact ⟨k + 1, by omega, by go_num, HT2, b4⟩
          case measure => simp [RowKit.intOf]; omega
        | false =>
          have hfin : Hid (decide (E = E') = false) := decide_eq_false (ne_at HEE.out.1 HEE.out.2 (of_decide_eq_false HQ.out))
          go_wp2_with fail
          go_region_held3 (fun w' => (w'.cell? ⟨b, off + k * 7, none⟩ = some (.int .i64 f) ∧ w'.cell? ⟨b, off + k * 7 + 1, none⟩ = some (.string t) ∧ w'.cell? ⟨b, off + k * 7 + 2, none⟩ = some (.int .i64 x) ∧ w'.cell? ⟨b, off + k * 7 + 3, none⟩ = some (.int .i64 z) ∧ w'.cell? ⟨b, off + k * 7 + 4, none⟩ = some (.string u) ∧ w'.cell? ⟨b, off + k * 7 + 5, none⟩ = some (.int .i64 cc1) ∧ w'.cell? ⟨b, off + k * 7 + 6, none⟩ = some (.slice p j c) ∧ w'.cell? ⟨b', off' + k * 7, none⟩ = some (.int .i64 f') ∧ w'.cell? ⟨b', off' + k * 7 + 1, none⟩ = some (.string t') ∧ w'.cell? ⟨b', off' + k * 7 + 2, none⟩ = some (.int .i64 x') ∧ w'.cell? ⟨b', off' + k * 7 + 3, none⟩ = some (.int .i64 z') ∧ w'.cell? ⟨b', off' + k * 7 + 4, none⟩ = some (.string u') ∧ w'.cell? ⟨b', off' + k * 7 + 5, none⟩ = some (.int .i64 cc1') ∧ w'.cell? ⟨b', off' + k * 7 + 6, none⟩ = some (.slice p' j' c')) ∧ Below w.heap.size w w')
            (exact ⟨by first | (with_reducible assumption) | (simp [*]; done), by first | (with_reducible assumption) | exact hbw.drew⟩)
            (first | (go_at_call 64; refine (cc _ ?_).mono ?_; (· first | assumption | exact hbw.drew | (apply And.right; assumption)); rintro r w3 ⟨rfl, b3⟩; have b4 : Below w.heap.size w w3 := (hbw.drew).trans (b3.mono hz0); have mm := HU.out _ b3))
          clear cc mm b3
          go_wp2
          go_ret
          exact ⟨by rw [hfin.out]; rfl, b4⟩
      · have hltI : ¬ (k : Int) < n := by omega
        have hfin : Hid (decide (E = E') = true) := decide_eq_true (by
          have := HT.out
          rwa [List.take_of_length_le (by rw [HN.out.2.2.1]; omega), List.take_of_length_le (by rw [HN.out.2.2.2]; omega)] at this)
        go_wp2
        go_ret
        exact ⟨by rw [hfin.out]; rfl, hbw⟩
  · have hne : ((n : Int) != m) = true := by simp; omega
    have hfin : Hid (decide (E = E') = false) := decide_eq_false (fun h => hnm (by rw [← HN.out.2.2.1, ← HN.out.2.2.2, h]))
    clear hca hcb hn hm hre hre' hE hE' hA hA' hnm HN hl hl'
    go_enter Tryz.func37, Tryz.ntmps37
    go_wp2
    go_ret
    exact ⟨by rw [hfin.out]; rfl, Below.refl _ _⟩

set_option maxHeartbeats 1000000 in
theorem ins6_any (o : Op5) (p : Option Addr) (l c : Nat) (w : World) : Calls Tryz.prog 35 #[opV o (.slice p l c)] w fun r w' => r = .returned (.bool (decide (o.k = 1 ∨ o.k = 2))) ∧ Below w.heap.size w w' := by
  obtain ⟨k, t, ⟨x, n, u⟩, cc, A⟩ := o
  simp only
  by_cases k1 : k = 1
  · subst k1
    rw [decide_eq_true (Or.inl rfl)]
    go_enter Tryz.func35, Tryz.ntmps35
    go_wp2
    go_ret
    exact ⟨rfl, by go_grown⟩
  · have e1 : (k == 1) = false := by simpa using k1
    by_cases k2 : k = 2
    · subst k2
      rw [decide_eq_true (Or.inr rfl)]
      go_enter Tryz.func35, Tryz.ntmps35
      go_wp2
      go_ret
      exact ⟨rfl, by go_grown⟩
    · have e2 : (k == 2) = false := by simpa using k2
      rw [decide_eq_false (by omega)]
      go_enter Tryz.func35, Tryz.ntmps35
      go_wp2
      go_ret
      exact ⟨rfl, by go_grown⟩
end Go.Proofs.YtfllomfjhkgaoaaGreatDoor

/- Operations as new memory: appends of rows of operations; vellumlaw05.copied. -/
namespace Go.Proofs.YtfllomfjhkgaoaaGreatDoor
open Go Go.RowKit Go.Lib
set_option linter.unusedVariables false

theorem cellsO_inv : ∀ (L : List OV) (j : Nat) (u : Value), (cellsO L)[j]? = some u → ∃ i d, L[i]? = some d ∧ ((j = i * 7 ∧ u = .int .i64 d.1) ∨ (j = i * 7 + 1 ∧ u = .string d.2.1) ∨ (j = i * 7 + 2 ∧ u = .int .i64 d.2.2.1.1) ∨ (j = i * 7 + 3 ∧ u = .int .i64 d.2.2.1.2.1) ∨ (j = i * 7 + 4 ∧ u = .string d.2.2.1.2.2) ∨ (j = i * 7 + 5 ∧ u = .int .i64 d.2.2.2.1) ∨ (j = i * 7 + 6 ∧ u = slV d.2.2.2.2))
  | [], j, u, h => by simp [cellsO] at h
  | p :: r, 0, u, h => ⟨0, p, rfl, Or.inl ⟨rfl, by simpa [cellsO] using h.symm⟩⟩
  | p :: r, 1, u, h => ⟨0, p, rfl, Or.inr (Or.inl ⟨rfl, by simpa [cellsO] using h.symm⟩)⟩
  | p :: r, 2, u, h => ⟨0, p, rfl, Or.inr (Or.inr (Or.inl ⟨rfl, by simpa [cellsO] using h.symm⟩))⟩
  | p :: r, 3, u, h => ⟨0, p, rfl, Or.inr (Or.inr (Or.inr (Or.inl ⟨rfl, by simpa [cellsO] using h.symm⟩)))⟩
  | p :: r, 4, u, h => ⟨0, p, rfl, Or.inr (Or.inr (Or.inr (Or.inr (Or.inl ⟨rfl, by simpa [cellsO] using h.symm⟩))))⟩
  | p :: r, 5, u, h => ⟨0, p, rfl, Or.inr (Or.inr (Or.inr (Or.inr (Or.inr (Or.inl ⟨rfl, by simpa [cellsO] using h.symm⟩)))))⟩
  | p :: r, 6, u, h => ⟨0, p, rfl, Or.inr (Or.inr (Or.inr (Or.inr (Or.inr (Or.inr ⟨rfl, by simpa [cellsO] using h.symm⟩)))))⟩
  | p :: r, j + 7, u, h => by
    obtain ⟨i, q, hq, hh⟩ := cellsO_inv r j u (by simpa [cellsO] using h)
    refine ⟨i + 1, q, by simpa using hq, ?_⟩
    rcases hh with ⟨h1, h2⟩ | ⟨h1, h2⟩ | ⟨h1, h2⟩ | ⟨h1, h2⟩ | ⟨h1, h2⟩ | ⟨h1, h2⟩ | ⟨h1, h2⟩
    · exact Or.inl ⟨by omega, h2⟩
    · exact Or.inr (Or.inl ⟨by omega, h2⟩)
    · exact Or.inr (Or.inr (Or.inl ⟨by omega, h2⟩))
    · exact Or.inr (Or.inr (Or.inr (Or.inl ⟨by omega, h2⟩)))
    · exact Or.inr (Or.inr (Or.inr (Or.inr (Or.inl ⟨by omega, h2⟩))))
    · exact Or.inr (Or.inr (Or.inr (Or.inr (Or.inr (Or.inl ⟨by omega, h2⟩)))))
    · exact Or.inr (Or.inr (Or.inr (Or.inr (Or.inr (Or.inr ⟨by omega, h2⟩)))))
/-- append(own, a row of operations ...). -/
theorem wpList_append_rowO {w : World} {ops : Array Oper} {rest : List Oper} {o : Oper} {a : Act} {Q : Exit → Act → World → Prop} (hgd : o.guard = none) (s x : Operand)
    (ho : o.op = .call { callee := .builtin .append, args := #[s, x], argTypes := #[22, 22] })
    (base : Nat) (v : Value) (L : List OV) (hs : a.eval s = v) (hown : OwnO w base v L)
    (u : Value) (M : List OV) (hx : a.eval x = u) (hM : RowO w u M)
    (h63 : L.length + M.length ≤ 33554432) (hbase : base ≤ w.heap.size)
    (h : ∀ v' w', OwnO w' base v' (L ++ M) → w.grownBy w' v.ownBlock → wpList Tryz.prog ops Q rest (a.put o.dst v') w') : wpList Tryz.prog ops Q (o :: rest) a w := by
  obtain ⟨i, z, hi, hz, hz1, hz2, hz3⟩ := infoOp
  obtain ⟨p, cap, rfl, hcap, hnz, hc⟩ := hM
  cases p with
  | none =>
    have hM0 : M = [] := List.eq_nil_of_length_eq_zero (by have := hnz rfl; omega)
    have hcap0 := hnz rfl
    subst hM0
    subst hcap0
    exact wpList_append_own_none hgd s x 22 ho base 48 i 7 Tryz.underlying22 hi v L.length (cellsO L) hs hown hx (h v w (by simpa using hown) ⟨rfl, rfl, rfl, Nat.le_refl _, fun _ _ _ => rfl⟩)
  | some ad =>
    refine wpList_append_own _ hgd s x _ ho base 48 i z 7 88 Tryz.underlying22 hi hz hz1 hz2 hz3 (by decide) v L.length (cellsO L) hs hown ad M.length cap (cellsO M) hx (cellsO_len M) (fun j y hj => ?_) (cellsO_one _) (by unfold maxLen; omega) (by omega) hbase (fun v' w' h1 h2 _ => h v' w' ?_ h2)
    · obtain ⟨i, d, hd, hh⟩ := cellsO_inv M j y hj
      obtain ⟨b, off, hp, h0, h1, h2, h3, h4, h5, h6⟩ := hc i d hd
      obtain rfl := Option.some.inj hp
      rw [Addr.add_lit]
      rcases hh with ⟨rfl, rfl⟩ | ⟨rfl, rfl⟩ | ⟨rfl, rfl⟩ | ⟨rfl, rfl⟩ | ⟨rfl, rfl⟩ | ⟨rfl, rfl⟩ | ⟨rfl, rfl⟩
      · exact h0
      · exact h1
      · exact h2
      · exact h3
      · exact h4
      · exact h5
      · exact h6
    · show w'.ownsRow _ _ _ _ _ _
      rw [cellsO_append, List.length_append]
      exact h1
/-- What operations in memory are, their lists the call's own. -/
def OwD (w : World) (B : Nat) (D : List OV) (E : List Op5) : Prop := All2 (fun (d : OV) (e : Op5) => d.1 = e.k ∧ d.2.1 = e.t ∧ d.2.2.1 = e.v ∧ d.2.2.2.1 = e.c ∧ OwnA w B (slV d.2.2.2.2) e.A) D E
theorem OwD.below {w w' : World} {B : Nat} {D : List OV} {E : List Op5} (h : OwD w B D E) (b : Below w.heap.size w w') : OwD w' B D E := All2.imp (fun d e h => ⟨h.1, h.2.1, h.2.2.1, h.2.2.2.1, owns_below h.2.2.2.2 b⟩) h
theorem OwD.keep {w w' : World} {B : Nat} {D : List OV} {E : List Op5} (h : OwD w B D E) (b : KeepA w w') : OwD w' B D E := All2.imp (fun d e h => ⟨h.1, h.2.1, h.2.2.1, h.2.2.2.1, keepA_own h.2.2.2.2 b⟩) h
theorem OwD.weaken {w : World} {B B' : Nat} {D : List OV} {E : List Op5} (h : OwD w B D E) (hb : B' ≤ B) : OwD w B' D E := All2.imp (fun d e h => ⟨h.1, h.2.1, h.2.2.1, h.2.2.2.1, own_weaken h.2.2.2.2 hb⟩) h
theorem OwD.re {w : World} {B : Nat} {D : List OV} {E : List Op5} (h : OwD w B D E) : ReD w D E := All2.imp (fun d e h => ⟨h.1, h.2.1, h.2.2.1, h.2.2.2.1, own_RN h.2.2.2.2⟩) h
/-- A list of operations, the call's own. -/
def CoO (w : World) (B : Nat) (v : Value) (E : List Op5) : Prop := ∃ D, OwnO w B v D ∧ OwD w B D E
theorem CoO.below {w w' : World} {B : Nat} {v : Value} {E : List Op5} (h : CoO w B v E) (b : Below w.heap.size w w') : CoO w' B v E := by
  obtain ⟨D, h1, h2⟩ := h
  exact ⟨D, owns_below h1 b, h2.below b⟩
theorem CoO.re {w : World} {B : Nat} {v : Value} {E : List Op5} (h : CoO w B v E) : ReO w v E := by
  obtain ⟨D, h1, h2⟩ := h
  exact ⟨D, own_rowO h1, h2.re⟩

end Go.Proofs.YtfllomfjhkgaoaaGreatDoor

/- ops: what a piece bears; plain retains; what may follow what. -/
namespace Go.Proofs.YtfllomfjhkgaoaaGreatDoor
open Go Go.RowKit Go.Lib
set_option linter.unusedVariables false

theorem pieceQ_1 {o : Op5} {s : Value} (h : o.k = 1) : pieceQ o s = .iface 125 (.agg #[s, .string o.t, .int .i64 (scs o.t.data.toList).length]) := by unfold pieceQ; rw [if_pos h]
theorem pieceQ_2 {o : Op5} {s : Value} (h : o.k = 2) : pieceQ o s = .iface 157 (.agg #[s, .string o.t, valP o.v]) := by unfold pieceQ; rw [if_neg (by omega), if_pos h]
theorem pieceQ_3 {o : Op5} {s : Value} (h : o.k = 3) : pieceQ o s = .iface 117 (.agg #[s, .int .i64 o.c]) := by unfold pieceQ; rw [if_neg (by omega), if_neg (by omega), if_pos h]
theorem pieceQ_4 {o : Op5} {s : Value} (h : o.k = 4) : pieceQ o s = .iface 89 (.agg #[.int .i64 o.c]) := by unfold pieceQ; rw [if_neg (by omega), if_neg (by omega), if_neg (by omega)]
/-- Is an operation a plain retain? -/
def plainR (o : Op5) : Bool := o.k == 3 && o.A.isEmpty
/-- May an operation stand right behind another one in a canonical list? -/
def apartB (x y : Op5) : Bool := if x.k = 4 then y.k == 3 else if x.k ≠ y.k ∨ x.k = 2 then true else !decide (x.A = y.A)
theorem drop_A {o : Op5} (h : opE o = 0) (hk : o.k = 4) : o.A = [] := by
  rcases op_good h with ⟨_, h1⟩ | ⟨_, _, h1⟩ | ⟨_, h2, _⟩
  · omega
  · omega
  · exact h2

set_option maxHeartbeats 1000000 in
theorem borne_any (o : Op5) (s : Value) (w : World) (hR : RN w s o.A) (hg : opE o = 0) (hl : o.A.length ≤ 2097152) :
    Calls Tryz.prog 71 #[pieceQ o s] w fun r w' => ∃ v', r = .returned v' ∧ OwnA w' w.heap.size v' o.A ∧ Below w.heap.size w w' := by
  have HC : Calls Tryz.prog 141 #[.agg #[s]] w fun r w' => ∃ v', r = .returned v' ∧ OwnA w' w.heap.size v' o.A ∧ Below w.heap.size w w' := attributes_any s o.A w hR.row hR.nz hl
  obtain ⟨p, l, cc, rfl⟩ : ∃ p l c, s = .slice p l c := by obtain ⟨p, c, h, _⟩ := hR.row.val; exact ⟨_, _, _, h⟩
  have hd := drop_A hg
  have hk := kinds_of hg
  clear hR hl hg
  obtain ⟨V, hV⟩ : ∃ V, valP o.v = V := ⟨_, rfl⟩
  obtain ⟨nn, hnn⟩ : ∃ x : Int, ((scs o.t.data.toList).length : Int) = x := ⟨_, rfl⟩
  rcases hk with h | h | h | h
  · rw [pieceQ_1 h]
    rw [hnn]
    clear hd h hV hnn
    have a1 := as_i_b
    go_enter Tryz.func71, Tryz.ntmps71
    go_wp2_with fail
    refine HC.mono ?_; rintro r w2 ⟨v', rfl, own, hb2⟩
    have O2 : Hid (OwnA w2 w.heap.size v' o.A) := own
    clear HC own
    go_wp2
    go_ret
    exact ⟨_, rfl, O2.out, hb2⟩
  · rw [pieceQ_2 h]
    rw [hV]
    clear hd h hV hnn
    have a1 := as_e_b
    go_enter Tryz.func71, Tryz.ntmps71
    go_wp2_with fail
    refine HC.mono ?_; rintro r w2 ⟨v', rfl, own, hb2⟩
    have O2 : Hid (OwnA w2 w.heap.size v' o.A) := own
    clear HC own
    go_wp2
    go_ret
    exact ⟨_, rfl, O2.out, hb2⟩
  · rw [pieceQ_3 h]
    clear hd h hV hnn
    have a1 := as_r_b
    go_enter Tryz.func71, Tryz.ntmps71
    go_wp2_with fail
    refine HC.mono ?_; rintro r w2 ⟨v', rfl, own, hb2⟩
    have O2 : Hid (OwnA w2 w.heap.size v' o.A) := own
    clear HC own
    go_wp2
    go_ret
    exact ⟨_, rfl, O2.out, hb2⟩
  · rw [pieceQ_4 h]
    have hA : Hid (o.A = []) := hd h
    clear hd h hV hnn HC
    have a1 := as_d_b
    go_enter Tryz.func71, Tryz.ntmps71
    go_wp2
    go_ret
    exact ⟨.slice none 0 0, rfl, by rw [hA.out]; exact ⟨rfl, Or.inl ⟨rfl, rfl⟩⟩, Below.refl _ _⟩
set_option maxHeartbeats 1000000 in
theorem plainR_any (o : Op5) (s : Value) (w : World) (hR : RN w s o.A) (hg : opE o = 0) (hl : o.A.length ≤ 2097152) :
    Calls Tryz.prog 56 #[pieceQ o s] w fun r w' => r = .returned (.bool (plainR o)) ∧ Below w.heap.size w w' := by
  have HC : ∀ W, Below w.heap.size w W → Calls Tryz.prog 71 #[pieceQ o s] W fun r w' => ∃ v', r = .returned v' ∧ OwnA w' W.heap.size v' o.A ∧ Below W.heap.size W w' := fun W hW => borne_any o s W (hR.below hW) hg hl
  obtain ⟨p, l, cc, rfl⟩ : ∃ p l c, s = .slice p l c := by obtain ⟨p, c, h, _⟩ := hR.row.val; exact ⟨_, _, _, h⟩
  have hk := kinds_of hg
  clear hR hl hg
  obtain ⟨V, hV⟩ : ∃ V, valP o.v = V := ⟨_, rfl⟩
  obtain ⟨nn, hnn⟩ : ∃ x : Int, ((scs o.t.data.toList).length : Int) = x := ⟨_, rfl⟩
  rcases hk with h | h | h | h
  · rw [pieceQ_1 h] at HC ⊢
    rw [hnn] at HC ⊢
    have hp : Hid (plainR o = false) := by show plainR o = false; unfold plainR; rw [h]; rfl
    clear h hV hnn HC
    have a1 := as_i_r
    go_enter Tryz.func56, Tryz.ntmps56
    go_wp2
    go_ret
    exact ⟨by rw [hp.out]; rfl, by go_grown⟩
  · rw [pieceQ_2 h] at HC ⊢
    rw [hV] at HC ⊢
    have hp : Hid (plainR o = false) := by show plainR o = false; unfold plainR; rw [h]; rfl
    clear h hV hnn HC
    have a1 := as_e_r
    go_enter Tryz.func56, Tryz.ntmps56
    go_wp2
    go_ret
    exact ⟨by rw [hp.out]; rfl, by go_grown⟩
  · rw [pieceQ_3 h] at HC ⊢
    obtain ⟨n, hn⟩ : ∃ n, o.A.length = n := ⟨_, rfl⟩
    have hp : Hid (plainR o = decide (n = 0)) := by
      show plainR o = _
      unfold plainR
      rw [h]
      cases e : o.A with
      | nil => rw [e] at hn; simp only [List.length_nil] at hn; subst hn; rfl
      | cons x r => rw [e] at hn; simp only [List.length_cons] at hn; rw [decide_eq_false (by omega)]; rfl
    have HN : Hid (o.A.length = n) := hn
    clear h hV hnn hn
    have a1 := as_r_r
    have c1 := HC _ ((Below.refl w.heap.size w).alloc (Nat.le_refl _) (.cells #[.slice p l cc, .int .i64 o.c] 117))
    have b0 := (Below.refl w.heap.size w).alloc (Nat.le_refl _) (.cells #[.slice p l cc, .int .i64 o.c] 117)
    clear HC
    have hz : ((n : Int) == 0) = decide (n = 0) := by rw [Bool.eq_iff_iff]; simp
    go_enter Tryz.func56, Tryz.ntmps56
    go_wp2_with (go_at_call 71; refine c1.mono ?_; rintro r w2 ⟨v', rfl, own, hb2⟩; obtain ⟨p', c', rfl⟩ := own_slice own; have b2 := b0.trans (hb2.mono b0.size); clear c1 b0 hb2 own; rw [HN.out])
    go_ret
    exact ⟨by rw [hp.out]; rfl, b2⟩
  · rw [pieceQ_4 h] at HC ⊢
    have hp : Hid (plainR o = false) := by show plainR o = false; unfold plainR; rw [h]; rfl
    clear h hV hnn HC
    have a1 := as_d_r
    go_enter Tryz.func56, Tryz.ntmps56
    go_wp2
    go_ret
    exact ⟨by rw [hp.out]; rfl, by go_grown⟩
set_option maxHeartbeats 1000000 in
theorem mayF_any (x y : Op5) (s s' : Value) (w : World) (hR : RN w s x.A) (hR' : RN w s' y.A) (hg : opE x = 0) (hg' : opE y = 0) (hl : x.A.length ≤ 2097152) (hl' : y.A.length ≤ 2097152) :
    Calls Tryz.prog 55 #[pieceQ x s, pieceQ y s'] w fun r w' => r = .returned (.bool (apartB x y)) ∧ Below w.heap.size w w' := by
  have HC : Hid (∀ W, Below w.heap.size w W → Calls Tryz.prog 71 #[pieceQ x s] W fun r w' => ∃ v', r = .returned v' ∧ OwnA w' W.heap.size v' x.A ∧ Below W.heap.size W w') := fun W hW => borne_any x s W (hR.below hW) hg hl
  have HC' : Hid (∀ W, Below w.heap.size w W → Calls Tryz.prog 71 #[pieceQ y s'] W fun r w' => ∃ v', r = .returned v' ∧ OwnA w' W.heap.size v' y.A ∧ Below W.heap.size W w') := fun W hW => borne_any y s' W (hR'.below hW) hg' hl'
  have HS : Hid (∀ W v v', RowA W v x.A → RowA W v' y.A → Calls Tryz.prog 70 #[v, v'] W fun r w' => r = .returned (.bool (decide (x.A = y.A))) ∧ Below W.heap.size W w') := fun W v v' h1 h2 => same_any' v v' x.A y.A W h1 h2 (by omega) (by omega)
  obtain ⟨p, l, cc, rfl⟩ : ∃ p l c, s = .slice p l c := by obtain ⟨p, c, h, _⟩ := hR.row.val; exact ⟨_, _, _, h⟩
  obtain ⟨p', l', cc', rfl⟩ : ∃ p l c, s' = .slice p l c := by obtain ⟨p, c, h, _⟩ := hR'.row.val; exact ⟨_, _, _, h⟩
  have hk := kinds_of hg
  have hk' := kinds_of hg'
  clear hR hl hg hR' hl' hg'
  obtain ⟨V, hV⟩ : ∃ V, valP x.v = V := ⟨_, rfl⟩
  obtain ⟨V', hV'⟩ : ∃ V, valP y.v = V := ⟨_, rfl⟩
  obtain ⟨nn, hnn⟩ : ∃ z : Int, ((scs x.t.data.toList).length : Int) = z := ⟨_, rfl⟩
  obtain ⟨nn', hnn'⟩ : ∃ z : Int, ((scs y.t.data.toList).length : Int) = z := ⟨_, rfl⟩
  obtain ⟨tx, htx⟩ : ∃ z, x.t = z := ⟨_, rfl⟩
  obtain ⟨ty, hty⟩ : ∃ z, y.t = z := ⟨_, rfl⟩
  obtain ⟨cx, hcx⟩ : ∃ z, x.c = z := ⟨_, rfl⟩
  obtain ⟨cy, hcy⟩ : ∃ z, y.c = z := ⟨_, rfl⟩
  rcases hk with h | h | h | h
  · rcases hk' with h' | h' | h' | h'
    · have hv : Hid (apartB x y = (!decide (x.A = y.A))) := by show apartB x y = _; unfold apartB; rw [if_neg (by omega), if_neg (by omega)]
      have cA := HC.out
      have cB := HC'.out
      have cS := HS.out
      rw [pieceQ_1 h, hnn, htx] at cA
      rw [pieceQ_1 h', hnn', hty] at cB
      have cA : Hid _ := cA
      have cB : Hid _ := cB
      have cS : Hid _ := cS
      rw [pieceQ_1 h, hnn, htx, pieceQ_1 h', hnn', hty]
      clear h h' hV hV' hnn hnn' htx hty hcx hcy HC HC' HS
      have a0 := as_i_i
      have a1 := as_i_r
      have a2 := as_i_d
      have b0 : Below w.heap.size w ((w.alloc (.cells #[.slice p' l' cc', .string ty, .int .i64 nn'] 125)).alloc (.cells #[.slice none 0 0, .int .i64 0] 117)) := ((Below.refl w.heap.size w).alloc (Nat.le_refl _) _).alloc (by simp) _
      have c1 := cA.out _ b0
      obtain ⟨sm, hsm⟩ : ∃ z, decide (x.A = y.A) = z := ⟨_, rfl⟩
      rw [hsm] at cS hv
      clear hsm
      go_enter Tryz.func55, Tryz.ntmps55
      go_wp2_with fail
      refine c1.mono ?_; rintro r w2 ⟨v1, rfl, own1, hb2⟩
      obtain ⟨p1, c1', rfl⟩ := own_slice own1
      have b2 := b0.trans (hb2.mono b0.size)
      have c2 := cB.out _ b2
      have R1 : Hid (RowA w2 (.slice p1 x.A.length c1') x.A) := own_rowA own1
      clear c1 own1 hb2 b0
      go_wp2_with fail
      refine c2.mono ?_; rintro r w3 ⟨v2, rfl, own2, hb3⟩
      obtain ⟨p2, c2', rfl⟩ := own_slice own2
      have b3 := b2.trans (hb3.mono b2.size)
      have c3 := cS.out w3 _ _ (R1.out.below hb3) (own_rowA own2)
      clear c2 own2 hb3 b2 R1
      go_wp2_with fail
      refine c3.mono ?_; rintro r w4 ⟨rfl, hb4⟩
      have b4 := b3.trans (hb4.mono b3.size)
      clear c3 b3 hb4
      go_wp2
      go_ret
      exact ⟨by rw [hv.out]; rfl, b4⟩
    · have hv : Hid (apartB x y = (true)) := by show apartB x y = _; unfold apartB; rw [h, h']; rfl
      rw [pieceQ_1 h, hnn, htx, pieceQ_2 h', hV', hty]
      clear h h' hV hV' hnn hnn' htx hty hcx hcy HC HC' HS
      have a0 := as_e_i
      have a1 := as_e_r
      have a2 := as_i_d
      have a3 := as_i_i
      go_enter Tryz.func55, Tryz.ntmps55
      go_wp2
      go_ret
      exact ⟨by rw [hv.out]; rfl, by go_grown⟩
    · have hv : Hid (apartB x y = (true)) := by show apartB x y = _; unfold apartB; rw [h, h']; rfl
      rw [pieceQ_1 h, hnn, htx, pieceQ_3 h', hcy]
      clear h h' hV hV' hnn hnn' htx hty hcx hcy HC HC' HS
      have a0 := as_r_i
      have a1 := as_r_r
      have a2 := as_i_d
      have a3 := as_i_i
      go_enter Tryz.func55, Tryz.ntmps55
      go_wp2
      go_ret
      exact ⟨by rw [hv.out]; rfl, by go_grown⟩
    · have hv : Hid (apartB x y = (true)) := by show apartB x y = _; unfold apartB; rw [h, h']; rfl
      rw [pieceQ_1 h, hnn, htx, pieceQ_4 h', hcy]
      clear h h' hV hV' hnn hnn' htx hty hcx hcy HC HC' HS
      have a0 := as_d_i
      have a1 := as_d_r
      have a2 := as_i_d
      have a3 := as_i_i
      go_enter Tryz.func55, Tryz.ntmps55
      go_wp2
      go_ret
      exact ⟨by rw [hv.out]; rfl, by go_grown⟩
  · rcases hk' with h' | h' | h' | h'
    · have hv : Hid (apartB x y = (true)) := by show apartB x y = _; unfold apartB; rw [h, h']; rfl
      rw [pieceQ_2 h, hV, htx, pieceQ_1 h', hnn', hty]
      clear h h' hV hV' hnn hnn' htx hty hcx hcy HC HC' HS
      have a0 := as_i_i
      have a1 := as_i_r
      have a2 := as_e_d
      have a3 := as_e_i
      have a4 := as_e_r
      go_enter Tryz.func55, Tryz.ntmps55
      go_wp2
      go_ret
      exact ⟨by rw [hv.out]; rfl, by go_grown⟩
    · have hv : Hid (apartB x y = (true)) := by show apartB x y = _; unfold apartB; rw [h, h']; rfl
      rw [pieceQ_2 h, hV, htx, pieceQ_2 h', hV', hty]
      clear h h' hV hV' hnn hnn' htx hty hcx hcy HC HC' HS
      have a0 := as_e_i
      have a1 := as_e_r
      have a2 := as_e_d
      go_enter Tryz.func55, Tryz.ntmps55
      go_wp2
      go_ret
      exact ⟨by rw [hv.out]; rfl, by go_grown⟩
    · have hv : Hid (apartB x y = (true)) := by show apartB x y = _; unfold apartB; rw [h, h']; rfl
      rw [pieceQ_2 h, hV, htx, pieceQ_3 h', hcy]
      clear h h' hV hV' hnn hnn' htx hty hcx hcy HC HC' HS
      have a0 := as_r_i
      have a1 := as_r_r
      have a2 := as_e_d
      have a3 := as_e_i
      have a4 := as_e_r
      go_enter Tryz.func55, Tryz.ntmps55
      go_wp2
      go_ret
      exact ⟨by rw [hv.out]; rfl, by go_grown⟩
    · have hv : Hid (apartB x y = (true)) := by show apartB x y = _; unfold apartB; rw [h, h']; rfl
      rw [pieceQ_2 h, hV, htx, pieceQ_4 h', hcy]
      clear h h' hV hV' hnn hnn' htx hty hcx hcy HC HC' HS
      have a0 := as_d_i
      have a1 := as_d_r
      have a2 := as_e_d
      have a3 := as_e_i
      have a4 := as_e_r
      go_enter Tryz.func55, Tryz.ntmps55
      go_wp2
      go_ret
      exact ⟨by rw [hv.out]; rfl, by go_grown⟩
  · rcases hk' with h' | h' | h' | h'
    · have hv : Hid (apartB x y = (true)) := by show apartB x y = _; unfold apartB; rw [h, h']; rfl
      rw [pieceQ_3 h, hcx, pieceQ_1 h', hnn', hty]
      clear h h' hV hV' hnn hnn' htx hty hcx hcy HC HC' HS
      have a0 := as_i_i
      have a1 := as_i_r
      have a2 := as_r_d
      have a3 := as_r_i
      have a4 := as_r_r
      go_enter Tryz.func55, Tryz.ntmps55
      go_wp2
      go_ret
      exact ⟨by rw [hv.out]; rfl, by go_grown⟩
    · have hv : Hid (apartB x y = (true)) := by show apartB x y = _; unfold apartB; rw [h, h']; rfl
      rw [pieceQ_3 h, hcx, pieceQ_2 h', hV', hty]
      clear h h' hV hV' hnn hnn' htx hty hcx hcy HC HC' HS
      have a0 := as_e_i
      have a1 := as_e_r
      have a2 := as_r_d
      have a3 := as_r_i
      have a4 := as_r_r
      go_enter Tryz.func55, Tryz.ntmps55
      go_wp2
      go_ret
      exact ⟨by rw [hv.out]; rfl, by go_grown⟩
    · have hv : Hid (apartB x y = (!decide (x.A = y.A))) := by show apartB x y = _; unfold apartB; rw [if_neg (by omega), if_neg (by omega)]
      have cA := HC.out
      have cB := HC'.out
      have cS := HS.out
      rw [pieceQ_3 h, hcx] at cA
      rw [pieceQ_3 h', hcy] at cB
      have cA : Hid _ := cA
      have cB : Hid _ := cB
      have cS : Hid _ := cS
      rw [pieceQ_3 h, hcx, pieceQ_3 h', hcy]
      clear h h' hV hV' hnn hnn' htx hty hcx hcy HC HC' HS
      have a0 := as_r_i
      have a1 := as_r_r
      have a2 := as_r_d
      have b0 : Below w.heap.size w ((w.alloc (.cells #[.slice none 0 0, .string ⟨#[]⟩, .int .i64 0] 125)).alloc (.cells #[.slice p' l' cc', .int .i64 cy] 117)) := ((Below.refl w.heap.size w).alloc (Nat.le_refl _) _).alloc (by simp) _
      have c1 := cA.out _ b0
      obtain ⟨sm, hsm⟩ : ∃ z, decide (x.A = y.A) = z := ⟨_, rfl⟩
      rw [hsm] at cS hv
      clear hsm
      go_enter Tryz.func55, Tryz.ntmps55
      go_wp2_with fail
      refine c1.mono ?_; rintro r w2 ⟨v1, rfl, own1, hb2⟩
      obtain ⟨p1, c1', rfl⟩ := own_slice own1
      have b2 := b0.trans (hb2.mono b0.size)
      have c2 := cB.out _ b2
      have R1 : Hid (RowA w2 (.slice p1 x.A.length c1') x.A) := own_rowA own1
      clear c1 own1 hb2 b0
      go_wp2_with fail
      refine c2.mono ?_; rintro r w3 ⟨v2, rfl, own2, hb3⟩
      obtain ⟨p2, c2', rfl⟩ := own_slice own2
      have b3 := b2.trans (hb3.mono b2.size)
      have c3 := cS.out w3 _ _ (R1.out.below hb3) (own_rowA own2)
      clear c2 own2 hb3 b2 R1
      go_wp2_with fail
      refine c3.mono ?_; rintro r w4 ⟨rfl, hb4⟩
      have b4 := b3.trans (hb4.mono b3.size)
      clear c3 b3 hb4
      go_wp2
      go_ret
      exact ⟨by rw [hv.out]; rfl, b4⟩
    · have hv : Hid (apartB x y = (true)) := by show apartB x y = _; unfold apartB; rw [h, h']; rfl
      rw [pieceQ_3 h, hcx, pieceQ_4 h', hcy]
      clear h h' hV hV' hnn hnn' htx hty hcx hcy HC HC' HS
      have a0 := as_d_i
      have a1 := as_d_r
      have a2 := as_r_d
      have a3 := as_r_i
      have a4 := as_r_r
      go_enter Tryz.func55, Tryz.ntmps55
      go_wp2
      go_ret
      exact ⟨by rw [hv.out]; rfl, by go_grown⟩
  · rcases hk' with h' | h' | h' | h'
    · have hv : Hid (apartB x y = (false)) := by show apartB x y = _; unfold apartB; rw [h, h']; rfl
      rw [pieceQ_4 h, hcx, pieceQ_1 h', hnn', hty]
      clear h h' hV hV' hnn hnn' htx hty hcx hcy HC HC' HS
      have a0 := as_i_i
      have a1 := as_i_r
      have a2 := as_d_d
      go_enter Tryz.func55, Tryz.ntmps55
      go_wp2
      go_ret
      exact ⟨by rw [hv.out]; rfl, by go_grown⟩
    · have hv : Hid (apartB x y = (false)) := by show apartB x y = _; unfold apartB; rw [h, h']; rfl
      rw [pieceQ_4 h, hcx, pieceQ_2 h', hV', hty]
      clear h h' hV hV' hnn hnn' htx hty hcx hcy HC HC' HS
      have a0 := as_e_i
      have a1 := as_e_r
      have a2 := as_d_d
      go_enter Tryz.func55, Tryz.ntmps55
      go_wp2
      go_ret
      exact ⟨by rw [hv.out]; rfl, by go_grown⟩
    · have hv : Hid (apartB x y = (true)) := by show apartB x y = _; unfold apartB; rw [h, h']; rfl
      rw [pieceQ_4 h, hcx, pieceQ_3 h', hcy]
      clear h h' hV hV' hnn hnn' htx hty hcx hcy HC HC' HS
      have a0 := as_r_i
      have a1 := as_r_r
      have a2 := as_d_d
      go_enter Tryz.func55, Tryz.ntmps55
      go_wp2
      go_ret
      exact ⟨by rw [hv.out]; rfl, by go_grown⟩
    · have hv : Hid (apartB x y = (false)) := by show apartB x y = _; unfold apartB; rw [h, h']; rfl
      rw [pieceQ_4 h, hcx, pieceQ_4 h', hcy]
      clear h h' hV hV' hnn hnn' htx hty hcx hcy HC HC' HS
      have a0 := as_d_i
      have a1 := as_d_r
      have a2 := as_d_d
      go_enter Tryz.func55, Tryz.ntmps55
      go_wp2
      go_ret
      exact ⟨by rw [hv.out]; rfl, by go_grown⟩
end Go.Proofs.YtfllomfjhkgaoaaGreatDoor

/- A builder in memory: what stands while it is written; the strings.Builder that it bears. -/
namespace Go.Proofs.YtfllomfjhkgaoaaGreatDoor
open Go Go.RowKit Go.Lib
set_option linter.unusedVariables false

/-- Below B the memory stands, and what D says but for rows of bytes, and all rows of pairs. -/
structure FrB (B : Nat) (D : Nat → Prop) (w w' : World) : Prop where
  below : Below B w w'
  kept : ∀ (k : Nat) (o : Obj), w.heap[k]? = some o → D k → (∀ c fz, o ≠ .cells c 5 fz) → w'.heap[k]? = some o
  keepA : KeepA w w'
theorem FrB.refl (B : Nat) (D : Nat → Prop) (w : World) : FrB B D w w := ⟨Below.refl _ _, fun _ _ h _ _ => h, fun _ _ h => rfl⟩
theorem FrB.trans {B : Nat} {D : Nat → Prop} {a b c : World} (h : FrB B D a b) (k : FrB B D b c) : FrB B D a c :=
  ⟨h.below.trans k.below, fun i o ho hd hn => k.kept i o (h.kept i o ho hd hn) hd hn, h.keepA.trans k.keepA⟩
theorem FrB.mono {B : Nat} {D D' : Nat → Prop} {w w' : World} (h : FrB B D w w') (hd : ∀ k, D' k → D k) : FrB B D' w w' := ⟨h.below, fun i o ho hk hn => h.kept i o ho (hd i hk) hn, h.keepA⟩
theorem FrB.low {B B' : Nat} {D : Nat → Prop} {w w' : World} (h : FrB B D w w') (hb : B' ≤ B) : FrB B' D w w' := ⟨h.below.mono hb, h.kept, h.keepA⟩
theorem FrB.of_below {B : Nat} {D : Nat → Prop} {w w' : World} (h : Below w.heap.size w w') (hB : B ≤ w.heap.size) : FrB B D w w' :=
  ⟨h.mono hB, fun k o ho _ _ => (h.block k (Array.getElem?_eq_some_iff.1 ho).1).trans ho, keepA_below h⟩
theorem FrB.drew {B : Nat} {D : Nat → Prop} {a w : World} (h : FrB B D a w) : FrB B D a w.drew := ⟨h.below.drew, h.kept, h.keepA⟩
theorem FrB.drewN {B : Nat} {D : Nat → Prop} {a w : World} (h : FrB B D a w) (n : Nat) : FrB B D a (w.drewN n) := ⟨below_drewN h.below n, h.kept, h.keepA⟩
theorem FrB.alloc {B : Nat} {D : Nat → Prop} {a w : World} (h : FrB B D a w) (hB : B ≤ w.heap.size) (o : Obj) : FrB B D a (w.alloc o) :=
  h.trans (.of_below ((Below.refl _ _).alloc (Nat.le_refl _) _) hB)
theorem FrB.setCell {B : Nat} {D : Nat → Prop} {a w : World} (h : FrB B D a w) {g j : Nat} {cs : Array Value} {T : TypeId} {fz : Nat × Nat} (hg : w.heap[g]? = some (.cells cs T fz)) (hT : T ≠ 106) (hB : B ≤ g) (hD : ¬ D g) (u : Value) : FrB B D a (w.setCell ⟨g, j, none⟩ u) := by
  refine h.trans ⟨(Below.refl _ _).setCell (p := ⟨g, j, none⟩) hB u, fun k o ho hd hn => ?_, fun k cur hk => ?_⟩
  · rw [Below.heap_setCell _ _ _ _ (by intro e; obtain rfl : k = g := e; exact hD hd)]; exact ho
  · refine Below.heap_setCell _ _ _ _ fun e => ?_
    obtain rfl : k = g := e
    rw [hg] at hk
    simp only [Option.some.injEq, Obj.cells.injEq] at hk
    exact hT hk.2.1
theorem FrB.grown {B : Nat} {D : Nat → Prop} {a w w' : World} {row : Option Nat} (h : FrB B D a w) (hg : w.grownBy w' row) (hB : B ≤ w.heap.size)
    (hr : ∀ k, row = some k → B ≤ k ∧ ∃ cs T fz, w.heap[k]? = some (.cells cs T fz) ∧ T ≠ 106 ∧ (D k → T = 5)) : FrB B D a w' := by
  refine h.trans ⟨(Below.refl _ _).grown hg hB (fun k hk => (hr k hk).1), fun k o ho hd hn => ?_, fun k cur hk => ?_⟩
  · refine (hg.block k (Array.getElem?_eq_some_iff.1 ho).1 fun e => ?_).trans ho
    obtain ⟨_, cs, T, fz, h1, _, h3⟩ := hr k e.symm
    rw [h1] at ho
    obtain rfl := Option.some.inj ho
    obtain rfl := h3 hd
    exact hn _ _ rfl
  · refine hg.block k (Array.getElem?_eq_some_iff.1 hk).1 fun e => ?_
    obtain ⟨_, cs, T, fz, h1, h2, _⟩ := hr k e.symm
    rw [h1] at hk
    simp only [Option.some.injEq, Obj.cells.injEq] at hk
    exact h2 hk.2.1
theorem heap_freeze (w : World) (p : Addr) (n k : Nat) (h : k ≠ p.block) : (w.freeze p n).heap[k]? = w.heap[k]? := by
  unfold World.freeze
  split
  · rfl
  · simp only [Array.getElem?_modify]
    rw [if_neg (fun e => h e.symm)]
theorem FrB.freeze {B : Nat} {D : Nat → Prop} {a w : World} (h : FrB B D a w) {g n : Nat} {cs : Array Value} {fz : Nat × Nat} (hg : w.heap[g]? = some (.cells cs 5 fz)) (hB : B ≤ g) : FrB B D a (w.freeze ⟨g, 0, none⟩ n) := by
  refine h.trans ⟨Lib.below_freeze (Below.refl B w) (p := ⟨g, 0, none⟩) hB _, fun k o ho hd hn => ?_, fun k cur hk => ?_⟩
  · refine (heap_freeze _ _ _ _ fun e => ?_).trans ho
    obtain rfl : k = g := e
    rw [hg] at ho
    obtain rfl := Option.some.inj ho
    exact hn _ _ rfl
  · refine heap_freeze _ _ _ _ fun e => ?_
    obtain rfl : k = g := e
    rw [hg] at hk
    simp only [Option.some.injEq, Obj.cells.injEq] at hk
    exact absurd hk.2.1 (by decide)

theorem infoU8 : ∃ i, Tryz.prog.info? 5 = some i ∧ i.zero = some (.int .u8 0) ∧ i.size = 1 ∧ i.bytes = 1 := by
  obtain ⟨i, hi, h⟩ := Option.map_eq_some_iff.1 (show (Tryz.prog.info? 5).map (fun i => (i.zero, i.size, i.bytes)) = some (some (.int .u8 0), 1, 1) by kernel_rfl)
  simp only [Prod.mk.injEq] at h
  exact ⟨i, hi, h.1, h.2.1, h.2.2⟩

/-- The six cells of a builder; the last two are its strings.Builder's, which holds l. -/
structure Sbd (w : World) (B g : Nat) (c0 c1 c2 c3 av jv : Value) (l : List UInt8) : Prop where
  lo : B ≤ g
  at_ : w.heap[g]? = some (.cells #[c0, c1, c2, c3, av, jv] 84 (0, 0))
  buf : w.ownsRowF B 5 1 jv l.length (byteCells l)
  adr : av = .pointer none ∨ av = .pointer (some ⟨g, 4, none⟩)
def SbE (w : World) (B g : Nat) (c0 c1 c2 c3 : Value) (l : List UInt8) : Prop := ∃ av jv, Sbd w B g c0 c1 c2 c3 av jv l
theorem Sbd.lt {w : World} {B g : Nat} {c0 c1 c2 c3 av jv : Value} {l : List UInt8} (h : Sbd w B g c0 c1 c2 c3 av jv l) : g < w.heap.size := (Array.getElem?_eq_some_iff.1 h.at_).1
theorem Sbd.ne {w : World} {B g : Nat} {c0 c1 c2 c3 av jv : Value} {l : List UInt8} (h : Sbd w B g c0 c1 c2 c3 av jv l) : jv.ownBlock ≠ some g := ownBlock_neF h.buf h.at_ (by decide)
theorem rowF_same {w w' : World} {B : Nat} {e : TypeId} {v : Value} {n : Nat} {xs : List Value} (h : w.ownsRowF B e 1 v n xs) (hk : ∀ k, v.ownBlock = some k → w'.heap[k]? = w.heap[k]?) : w'.ownsRowF B e 1 v n xs := by
  refine ⟨h.1, ?_⟩
  rcases h.2 with hn | ⟨g, cap, cur, fz, rfl, hb, hgg, rest⟩
  · exact .inl hn
  · exact .inr ⟨g, cap, cur, fz, rfl, hb, (hk g rfl).trans hgg, rest⟩
theorem Sbd.set4 {w : World} {B g : Nat} {c0 c1 c2 c3 av jv : Value} {l : List UInt8} (h : Sbd w B g c0 c1 c2 c3 av jv l) (q : Value) (hq : q = .pointer none ∨ q = .pointer (some ⟨g, 4, none⟩)) : Sbd (w.setCell ⟨g, 4, none⟩ q) B g c0 c1 c2 c3 q jv l :=
  ⟨h.lo, by rw [heap_set_at _ _ _ _ _ _ _ h.at_]; rfl, rowF_same h.buf fun k hk => Below.heap_setCell _ _ _ _ (fun e => h.ne (by rw [hk, e])), hq⟩
theorem Sbd.set5 {w : World} {B g : Nat} {c0 c1 c2 c3 av jv jv' : Value} {l' : List UInt8} (hlo : B ≤ g) (hat : w.heap[g]? = some (.cells #[c0, c1, c2, c3, av, jv] 84 (0, 0))) (hbuf : w.ownsRowF B 5 1 jv' l'.length (byteCells l')) (hadr : av = .pointer none ∨ av = .pointer (some ⟨g, 4, none⟩)) : Sbd (w.setCell ⟨g, 5, none⟩ jv') B g c0 c1 c2 c3 av jv' l' :=
  ⟨hlo, by rw [heap_set_at _ _ _ _ _ _ _ hat]; rfl, rowF_same hbuf fun k hk => Below.heap_setCell _ _ _ _ (fun e => ownBlock_neF hbuf hat (by decide) (by rw [hk, e])), hadr⟩
theorem strCells_byte (s : ByteArray) : strCells s = byteCells s.data.toList := rfl

set_option maxHeartbeats 1000000 in
theorem sbLen_any (B g : Nat) (c0 c1 c2 c3 : Value) (l : List UInt8) (w : World) (h : SbE w B g c0 c1 c2 c3 l) :
    Calls Tryz.prog 105 #[.pointer (some ⟨g, 4, none⟩)] w fun e w' => e = .returned (.int .i64 l.length) ∧ w' = w := by
  obtain ⟨av, jv, h⟩ := h
  obtain ⟨p, n, cap, rfl, hn⟩ : ∃ p n cap, jv = .slice p n cap ∧ n = l.length := by
    rcases h.buf.2 with ⟨rfl, h0⟩ | ⟨g', cap, cur, fz, rfl, _⟩
    · exact ⟨none, 0, 0, rfl, h0.symm⟩
    · exact ⟨_, _, _, rfl, rfl⟩
  have c5 : w.cell? ⟨g, 5, none⟩ = some (.slice p n cap) := by rw [cell_of_heap h.at_]; rfl
  rw [← hn]
  clear h hn
  go_enter Tryz.func105, Tryz.ntmps105
  go_wp2
  go_ret
  exact ⟨rfl, rfl⟩
set_option maxHeartbeats 1000000 in
set_option maxRecDepth 100000 in
theorem sbCheck_any (B g : Nat) (c0 c1 c2 c3 : Value) (l : List UInt8) (w : World) (h : SbE w B g c0 c1 c2 c3 l) :
    Calls Tryz.prog 115 #[.pointer (some ⟨g, 4, none⟩)] w fun e w' => e = .returned (.tuple #[]) ∧ (∃ jv, Sbd w' B g c0 c1 c2 c3 (.pointer (some ⟨g, 4, none⟩)) jv l) ∧ FrB B (fun k => k ≠ g) w w' := by
  obtain ⟨av, jv, h⟩ := h
  have c4 : w.cell? ⟨g, 4, none⟩ = some av := by rw [cell_of_heap h.at_]; rfl
  have f4 : w.frozen? ⟨g, 4, none⟩ = false := frozen_of_heap h.at_ 4
  have HF : Hid (FrB B (fun k => k ≠ g) w (w.setCell ⟨g, 4, none⟩ (.pointer (some ⟨g, 4, none⟩)))) := (FrB.refl _ _ w).setCell h.at_ (by decide) h.lo (by simp) _
  have HS : Hid (Sbd (w.setCell ⟨g, 4, none⟩ (.pointer (some ⟨g, 4, none⟩))) B g c0 c1 c2 c3 (.pointer (some ⟨g, 4, none⟩)) jv l) := h.set4 _ (Or.inr rfl)
  have hsh : w.shape? g = some (84, 6) := by simp [World.shape?, h.at_]
  obtain ⟨j, hj, hjs⟩ := Option.map_eq_some_iff.1 (show (Tryz.prog.info? 82).map (·.size) = some 2 by kernel_rfl)
  rcases h.adr with rfl | rfl
  · clear h
    go_enter Tryz.func115, Tryz.ntmps115
    go_wp2
    rw [Lib.run_to_unsafe w ⟨g, 4, none⟩ Tryz.underlying79 Tryz.underlying187 hj (by rw [hjs]; decide) hsh (by decide : 4 < 6)]
    simp only [Result.andThen]
    rw [Oper.upon_value]
    go_wp2
    rw [run_callFunc_extern Tryz.func121 (by kernel_rfl) (by kernel_rfl) (by kernel_rfl) (e := Extern.AbiNoEscape.same) (by kernel_rfl)]
    rw [Lib.run_noEscape]
    simp only [Result.andThen]
    rw [Oper.upon_value]
    go_wp2
    rw [Lib.run_from_unsafe w ⟨g, 4, none⟩ Tryz.underlying187 Tryz.underlying79 hj hsh (by kernel_rfl)]
    simp only [Result.andThen]
    rw [Oper.upon_value]
    go_wp2
    go_end0
    exact ⟨rfl, ⟨jv, HS.out⟩, HF.out⟩
  · have HS2 : Hid (Sbd w B g c0 c1 c2 c3 (.pointer (some ⟨g, 4, none⟩)) jv l) := h
    clear h
    go_enter Tryz.func115, Tryz.ntmps115
    go_wp2
    rw [Lib.run_neq_ptr_same w _ Tryz.underlying79 hj]
    go_wp2
    go_end0
    exact ⟨rfl, ⟨jv, HS2.out⟩, FrB.refl _ _ _⟩
set_option maxHeartbeats 2000000 in
set_option maxRecDepth 100000 in
theorem sbWrite_any (B g : Nat) (c0 c1 c2 c3 : Value) (l : List UInt8) (s : ByteArray) (w : World) (h : SbE w B g c0 c1 c2 c3 l) (hlen : l.length + s.size ≤ 140737488355328) (hBw : B ≤ w.heap.size) :
    Calls Tryz.prog 106 #[.pointer (some ⟨g, 4, none⟩), .string s] w fun e w' => e = .returned (.tuple #[.int .i64 s.size, .nilIface]) ∧ SbE w' B g c0 c1 c2 c3 (l ++ s.data.toList) ∧ FrB B (fun k => k ≠ g) w w' := by
  obtain ⟨i0, hi, hz0, hz1, hz2⟩ := infoU8
  have cc := sbCheck_any B g c0 c1 c2 c3 l w h
  clear h
  go_enter Tryz.func106, Tryz.ntmps106
  go_wp2_with fail
  refine cc.mono ?_; rintro e w1 ⟨rfl, ⟨jv, h1⟩, hf1⟩
  have c5 : w1.cell? ⟨g, 5, none⟩ = some jv := by rw [cell_of_heap h1.at_]; rfl
  have HH : Hid (Sbd w1 B g c0 c1 c2 c3 (.pointer (some ⟨g, 4, none⟩)) jv l ∧ FrB B (fun k => k ≠ g) w w1) := ⟨h1, hf1⟩
  clear cc h1 hf1
  go_wp2_with (at_builtin; refine Lib.wpList_append_own_stringF _ rfl _ _ 80 9 rfl B 5 i0 Tryz.underlying80 Tryz.underlying9 hi hz0 hz1 hz2 _ _ _ rfl HH.out.1.buf s rfl ?c3 ?c4 ?c5 ?_)
  case c3 => unfold maxLen; omega
  case c4 => omega
  case c5 => exact Nat.le_trans hBw HH.out.2.below.size
  intro v' w2 hown' hgrow _
  obtain ⟨h1, hf1⟩ := HH.out
  have hb2 : w2.heap[g]? = some (.cells #[c0, c1, c2, c3, .pointer (some ⟨g, 4, none⟩), jv] 84 (0, 0)) := by
    rw [hgrow.block g h1.lt (fun e => h1.ne e.symm)]
    exact h1.at_
  have d5 : w2.cell? ⟨g, 5, none⟩ = some jv := by rw [cell_of_heap hb2]; rfl
  have f5 : w2.frozen? ⟨g, 5, none⟩ = false := frozen_of_heap hb2 5
  obtain ⟨ao, n', cap, rfl⟩ : ∃ ao n' cap, v' = .slice ao n' cap := by
    rcases hown'.2 with ⟨hv, _⟩ | ⟨g', cap, cur, fz, hv, _⟩
    · exact ⟨_, _, _, hv⟩
    · exact ⟨_, _, _, hv⟩
  have HS : Hid (Sbd (w2.setCell ⟨g, 5, none⟩ (.slice ao n' cap)) B g c0 c1 c2 c3 (.pointer (some ⟨g, 4, none⟩)) (.slice ao n' cap) (l ++ s.data.toList)) := by
    refine Sbd.set5 h1.lo hb2 ?_ (Or.inr rfl)
    have e1 : byteCells (l ++ s.data.toList) = byteCells l ++ strCells s := by rw [strCells_byte]; simp [byteCells]
    rw [e1, List.length_append, size_toList]
    exact hown'
  have HF : Hid (FrB B (fun k => k ≠ g) w (w2.setCell ⟨g, 5, none⟩ (.slice ao n' cap))) := by
    refine (hf1.grown hgrow (Nat.le_trans hBw hf1.below.size) fun k hk => ?_).setCell hb2 (by decide) h1.lo (by simp) _
    obtain ⟨c, fz, hc⟩ := ownsRowF_kind h1.buf k hk
    exact ⟨(h1.buf.lt k hk).1, c, _, fz, hc, by decide, fun _ => rfl⟩
  clear HH h1 hf1 hb2 hown' hgrow c5
  go_wp2
  go_ret2
  exact ⟨rfl, ⟨_, _, HS.out⟩, HF.out⟩
set_option maxHeartbeats 2000000 in
set_option maxRecDepth 100000 in
theorem sbReset_any (B g : Nat) (c0 c1 c2 c3 : Value) (l : List UInt8) (w : World) (h : SbE w B g c0 c1 c2 c3 l) :
    Calls Tryz.prog 88 #[.pointer (some ⟨g, 4, none⟩)] w fun e w' => e = .returned (.tuple #[]) ∧ SbE w' B g c0 c1 c2 c3 [] ∧ FrB B (fun k => k ≠ g) w w' := by
  obtain ⟨av, jv, h⟩ := h
  have c4 : w.cell? ⟨g, 4, none⟩ = some av := by rw [cell_of_heap h.at_]; rfl
  have c5 : w.cell? ⟨g, 5, none⟩ = some jv := by rw [cell_of_heap h.at_]; rfl
  have f4 : w.frozen? ⟨g, 4, none⟩ = false := frozen_of_heap h.at_ 4
  have f5 : w.frozen? ⟨g, 5, none⟩ = false := frozen_of_heap h.at_ 5
  have h4 := h.set4 (.pointer none) (Or.inl rfl)
  have HS : Hid (Sbd ((w.setCell ⟨g, 4, none⟩ (.pointer none)).setCell ⟨g, 5, none⟩ (.slice none 0 0)) B g c0 c1 c2 c3 (.pointer none) (.slice none 0 0) []) := Sbd.set5 h.lo h4.at_ (World.ownsRowF_nil _ _ _ _) (Or.inl rfl)
  have HF : Hid (FrB B (fun k => k ≠ g) w ((w.setCell ⟨g, 4, none⟩ (.pointer none)).setCell ⟨g, 5, none⟩ (.slice none 0 0))) := ((FrB.refl _ _ w).setCell h.at_ (by decide) h.lo (by simp) _).setCell h4.at_ (by decide) h.lo (by simp) _
  clear h h4
  go_enter Tryz.func88, Tryz.ntmps88
  go_wp2
  go_end0
  exact ⟨rfl, ⟨_, _, HS.out⟩, HF.out⟩
set_option maxHeartbeats 2000000 in
set_option maxRecDepth 100000 in
theorem sbString_any (B g : Nat) (c0 c1 c2 c3 : Value) (l : List UInt8) (w : World) (h : SbE w B g c0 c1 c2 c3 l) (h0 : l ≠ []) :
    Calls Tryz.prog 107 #[.pointer (some ⟨g, 4, none⟩)] w fun e w' => e = .returned (.string ⟨l.toArray⟩) ∧ SbE w' B g c0 c1 c2 c3 l ∧ FrB B (fun k => k ≠ g) w w' := by
  obtain ⟨av, jv, h⟩ := h
  have hl0 : l.length ≠ 0 := by simpa using h0
  obtain ⟨r, cap, cur, fz, rfl, hbg, hg, hfz, hnc, hcm, hcs, htake⟩ : ∃ r cap cur fz, jv = .slice (some ⟨r, 0, none⟩) l.length cap ∧ B ≤ r ∧ w.heap[r]? = some (.cells cur 5 fz) ∧ fz.2 ≤ l.length * 1 ∧ l.length ≤ cap ∧ cap ≤ maxLen ∧ cur.size = cap * 1 ∧ cur.toList.take (l.length * 1) = byteCells l := by
    rcases h.buf.2 with ⟨_, hz⟩ | ⟨g', cap, cur, fz, hv, r⟩
    · exact absurd hz hl0
    · exact ⟨g', cap, cur, fz, hv, r⟩
  have c5 : w.drew.cell? ⟨g, 5, none⟩ = some (.slice (some ⟨r, 0, none⟩) l.length cap) := by
    have : w.drew.heap[g]? = _ := h.at_
    rw [cell_of_heap this]; rfl
  have hrg : r ≠ g := fun e => h.ne (by simp [Value.ownBlock, e])
  have hSD : (Builtin.unsafeSliceData_ #[80] 182 #[.slice (some ⟨r, 0, none⟩) l.length cap]).run Tryz.prog w.drew = .ok (.pointer (some ⟨r, 0, none⟩)) w.drew :=
    Lib.run_unsafeSliceData_row _ _ _ _ _ _ (by omega)
  have hcells : Tryz.prog.cellsOf 5 = 1 := by kernel_rfl
  have hUS : (Builtin.unsafeString_ #[182, 3] 9 #[.pointer (some ⟨r, 0, none⟩), .int .i64 l.length]).run Tryz.prog w.drew = .ok (.string ⟨l.toArray⟩) (w.drew.freeze ⟨r, 0, none⟩ l.length) := by
    refine Lib.run_unsafeString_row w.drew 182 3 9 5 Tryz.underlying182 hcells r cur.size (by have hg' : w.drew.heap[r]? = some (.cells cur 5 fz) := hg; simp [World.shape?, hg']) l h0 (by omega) (by unfold maxLen at hcm; omega) ?_
    intro j x hx
    have := h.buf.cells (g := r) rfl j (.int .u8 x.toNat) (by simp [byteCells, hx])
    exact this
  have HS : Hid (Sbd (w.drew.freeze ⟨r, 0, none⟩ l.length) B g c0 c1 c2 c3 av (.slice (some ⟨r, 0, none⟩) l.length cap) l) := by
    refine ⟨h.lo, (heap_freeze _ _ _ _ (fun e => hrg e.symm)).trans h.at_, ⟨h.buf.1, ?_⟩, h.adr⟩
    unfold World.freeze
    rw [if_neg (by simpa using hl0)]
    obtain ⟨lo, hi⟩ := fz
    refine .inr ⟨r, _, cur, (if lo == hi then (0, 0 + l.length) else (min lo 0, max hi (0 + l.length))), rfl, hbg, ?_, ?_, hnc, hcm, hcs, htake⟩
    · have hg' : w.drew.heap[r]? = some (.cells cur 5 (lo, hi)) := hg
      simp [Array.getElem?_modify, hg']
    · simp only at hfz
      split <;> simp <;> omega
  have HF : Hid (FrB B (fun k => k ≠ g) w (w.drew.freeze ⟨r, 0, none⟩ l.length)) := (FrB.refl _ _ w).drew.freeze (w := w.drew) (cs := cur) (fz := fz) hg hbg
  clear h hg hfz hnc hcm hcs htake hbg
  go_enter Tryz.func107, Tryz.ntmps107
  go_wp2
  go_region
  all_goals (go_wp2; go_ret; exact ⟨rfl, ⟨_, _, HS.out⟩, HF.out⟩)
end Go.Proofs.YtfllomfjhkgaoaaGreatDoor

/- ops.Canonical. -/
namespace Go.Proofs.YtfllomfjhkgaoaaGreatDoor
open Go Go.RowKit Go.Lib
set_option linter.unusedVariables false

/-- Each may follow the one ahead of it. -/
def chainB : List Op5 → Bool
  | x :: y :: r => apartB x y && chainB (y :: r)
  | _ => true
/-- The last one isn't a plain retain. -/
def lastP (E : List Op5) : Bool := match E.getLast? with | some o => !plainR o | none => true
/-- Is a list canonical? -/
def canonB (E : List Op5) : Bool := decide ((lensL E).2.2 = 0) && chainB E && lastP E
theorem chain_iff : ∀ {E : List Op5}, chainB E = true ↔ ∀ j x y, E[j]? = some x → E[j + 1]? = some y → apartB x y = true
  | [] => ⟨fun _ j x y h => by simp at h, fun _ => rfl⟩
  | [a] => ⟨fun _ j x y _ h => by simp at h, fun _ => rfl⟩
  | a :: b :: r => by
    rw [chainB, Bool.and_eq_true, chain_iff (E := b :: r)]
    constructor
    · rintro ⟨h1, h2⟩ j x y hx hy
      cases j with
      | zero =>
        obtain rfl : a = x := by simpa using hx
        obtain rfl : b = y := by simpa using hy
        exact h1
      | succ j => exact h2 j x y (by simpa using hx) (by simpa using hy)
    · intro h
      exact ⟨h 0 a b rfl rfl, fun j x y hx hy => h (j + 1) x y (by simpa using hx) (by simpa using hy)⟩
theorem lens_cases (E : List Op5) : (lensL E).2.2 = 0 ↔ (badP E).2 = 0 ∧ (sumL 0 0 E).2.2 = 0 := by
  unfold lensL
  by_cases h : (badP E).2 = 0
  · rw [if_neg (by simpa using h)]; exact ⟨fun h2 => ⟨h, h2⟩, fun h2 => h2.2⟩
  · rw [if_pos h]; exact ⟨fun h2 => absurd h2 h, fun h2 => absurd h2.1 h⟩

set_option maxHeartbeats 2000000 in
set_option maxRecDepth 100000 in
theorem canon_any {I : List Nat} {a : Nat → Addr} (v : Value) (E : List Op5) (w : World) (hI : ∀ i ∈ IxO, i ∈ I) (hS : Std I a w) (hv : ReO w v E) (hF : FitL E) (hl : E.length ≤ 1048576) :
    Calls Tryz.prog 25 #[v] w fun r w' => r = .returned (.bool (canonB E)) ∧ Below w.heap.size w w' := by
  have c1 := of_any v E w hI hS hv hF hl
  have c2 := fun W v' P (hW : Below w.heap.size w W) (h1 : OwnI W w.heap.size v' P) (h2 : PieD W w.heap.size P E) (h3 : (badP E).2 = 0) => sum_any v' P E w.heap.size W hI (hS.below hW) h1 h2 (bad_zero.1 h3) hF hl
  obtain ⟨D, ⟨p, cap, rfl, _, _, _⟩, hre⟩ := hv
  rw [forall2_len hre] at c1 ⊢
  clear hS hI hre
  have hlc := lens_cases E
  cases hb : (badP E).2 with
  | zero =>
    obtain ⟨S, hs⟩ : ∃ x, sumL 0 0 E = x := ⟨_, rfl⟩
    rw [hb, errOf_zero] at c1
    have hgood : ∀ o ∈ E, opE o = 0 := bad_zero.1 hb
    obtain ⟨i1, hi1⟩ : ∃ i : Int, ((badP E).1 : Int) = i := ⟨_, rfl⟩
    rw [hi1] at c1
    rw [hs] at c2 hlc
    rw [hb] at hlc
    obtain ⟨b9, r9, e9⟩ := S
    simp only [true_and] at c2 hlc
    cases e9 with
    | succ e =>
      have hcan : Hid (canonB E = false) := by
        show canonB E = false
        unfold canonB
        rw [decide_eq_false (fun h => by have := hlc.1 h; omega)]; rfl
      rw [errOf_succ] at c2
      have C2 : Hid _ := c2
      have HB : Hid ((badP E).2 = 0) := hb
      clear hb hs hi1 c2 hlc hgood
      go_enter Tryz.func25, Tryz.ntmps25
      go_wp2_with fail
      refine c1.mono ?_; rintro r w2 ⟨v', rfl, hok, _, hb2⟩
      obtain ⟨P, hP1, hP2⟩ := hok (by simp)
      have c3 := C2.out _ v' P hb2 hP1 hP2 HB.out
      clear c1 C2 hok hP1 hP2
      go_wp2_with fail
      refine c3.mono ?_; rintro r w3 ⟨rfl, hb3⟩
      have b3 := hb2.trans (hb3.mono hb2.size)
      clear c3 hb2 hb3
      go_wp2
      go_ret
      exact ⟨by rw [hcan.out]; rfl, b3⟩
    | zero =>
      rw [errOf_zero] at c2
      have HLZ : Hid ((lensL E).2.2 = 0) := hlc.2 rfl
      have C2 : Hid _ := c2
      have HB : Hid ((badP E).2 = 0) := hb
      have HGF : Hid (∀ o ∈ E, opE o = 0 ∧ Fit o) := fun o ho => ⟨hgood o ho, hF o ho⟩
      clear hb hs hi1 c2 hlc hgood hF
      go_enter Tryz.func25, Tryz.ntmps25
      go_wp2_with fail
      refine c1.mono ?_; rintro r w2 ⟨v', rfl, hok, _, hb2⟩
      obtain ⟨P, hP1, hP2⟩ := hok (by simp)
      have c3 := C2.out _ v' P hb2 hP1 hP2 HB.out
      obtain ⟨p', cap', rfl⟩ := own_slice hP1
      obtain ⟨n, hn⟩ : ∃ n, P.length = n := ⟨_, rfl⟩
      have hPE := forall2_len hP2
      have HN : Hid (E.length = n) := by show _ = _; omega
      rw [hn] at c3 ⊢
      have hln : n ≤ 1048576 := by omega
      have HV : Hid (∀ k, k < n → ∃ ga e s, p' = some ⟨ga, 0, none⟩ ∧ E[k]? = some e ∧ w2.cell? ⟨ga, k, none⟩ = some (pieceQ e s) ∧ RN w2 s e.A) := fun k hk => by
        obtain ⟨g, c, x, hv', hB, hx, hc⟩ := own_cell hP1 k (by omega)
        obtain ⟨e, s, he, rfl, ho⟩ := oneI hP2 hx
        simp only [Value.slice.injEq] at hv'
        exact ⟨g, e, s, hv'.1, he, hc, own_RN ho⟩
      clear c1 C2 hok hP1 hP2 hn hPE hl
      go_wp2_with fail
      refine c3.mono ?_; rintro r w3 ⟨rfl, hb3⟩
      have b3 := hb2.trans (hb3.mono hb2.size)
      clear c3
      go_wp2_with fail
      go_loopw [29] (fun i wr => ∃ (k : Nat), k ≤ n ∧ i = .int .i64 k ∧ Hid (∀ j x y, j + 1 < k → E[j]? = some x → E[j + 1]? = some y → apartB x y = true) ∧ Below w2.heap.size w2 wr) (fun i _ => n - (RowKit.intOf i).toNat)
      case atStart => exact ⟨0, Nat.zero_le _, rfl, fun j x y h => by omega, hb3⟩
      case round =>
        clear hb3 b3
        obtain ⟨k, hk, rfl, HCh, hbw⟩ := hrel
        by_cases hlt : k < n
        · have hltI : (k : Int) < n := by omega
          obtain ⟨ga, e, s, rfl, he, hc, hs⟩ := HV.out k hlt
          have c0 := (hbw.cell (lt_of_cell hc)).trans hc
          obtain ⟨u, x, hux⟩ := pieceQ_if e s
          rw [hux] at c0
          cases k with
          | zero =>
            have hz : decide ((0 : Int) < ((0 : Nat) : Int)) = false := by decide
            clear he hc hs hux
            go_wp2
            go_roundw
            case rel => exact ⟨1, by omega, by go_num, fun j x y h => by omega, hbw⟩
            case measure => simp [RowKit.intOf]; omega
          | succ m =>
            obtain ⟨ga', e', s', hga, he', hc', hs'⟩ := HV.out m (by omega)
            simp only [Option.some.injEq, Addr.mk.injEq, and_true] at hga
            subst hga
            have c0' := (hbw.cell (lt_of_cell hc')).trans hc'
            have fe := HGF.out e (List.mem_of_getElem? he)
            have fe' := HGF.out e' (List.mem_of_getElem? he')
            have cM := fun W (hW : Below w2.heap.size w2 W) => mayF_any e' e s' s W (hs'.below hW) (hs.below hW) fe'.1 fe.1 (by have := fe'.2.n; omega) (by have := fe.2.n; omega)
            obtain ⟨u', x', hux'⟩ := pieceQ_if e' s'
            rw [hux'] at c0' cM
            rw [hux] at cM
            have HE : Hid (E[m]? = some e' ∧ E[m + 1]? = some e) := ⟨he', he⟩
            obtain ⟨q, hq⟩ : ∃ q, apartB e' e = q := ⟨_, rfl⟩
            have HQ : Hid (apartB e' e = q) := hq
            rw [hq] at cM
            have cM := cM _ hbw
            have hm0 : decide ((0 : Int) < (m : Int) + 1) = true := decide_eq_true (by omega)
            have hm1 : ((m : Int) + 1 - 1) = (m : Int) := by omega
            clear he hc hs hux he' hc' hs' hux' fe fe' hq
            cases q with
            | false =>
              have hcan : Hid (canonB E = false) := by
                show canonB E = false
                cases h : chainB E with
                | true => have := chain_iff.1 h m e' e HE.out.1 HE.out.2; rw [HQ.out] at this; cases this
                | false => unfold canonB; rw [h]; simp
              go_wp2_with fail
              refine cM.mono ?_; rintro r w5 ⟨rfl, hb5⟩
              have b5 := hb2.trans ((hbw.trans (hb5.mono hbw.size)).mono hb2.size)
              clear cM hb5
              go_wp2
              go_ret
              exact ⟨by rw [hcan.out]; rfl, b5⟩
            | true =>
              have HCh2 : Hid (∀ j x y, j + 1 < m + 1 + 1 → E[j]? = some x → E[j + 1]? = some y → apartB x y = true) := fun j x y hj hx hy => by
                by_cases hjm : j = m
                · subst hjm
                  obtain rfl := Option.some.inj (hx.symm.trans HE.out.1)
                  obtain rfl := Option.some.inj (hy.symm.trans HE.out.2)
                  exact HQ.out
                · exact HCh.out j x y (by omega) hx hy
              go_wp2_with fail
              refine cM.mono ?_; rintro r w5 ⟨rfl, hb5⟩
              have b5 := hbw.trans (hb5.mono hbw.size)
              clear cM hb5
              go_wp2
              go_roundw
              case rel => exact ⟨m + 1 + 1, by omega, by go_num, HCh2.out, b5⟩
              case measure => simp [RowKit.intOf]; omega
        · have hltI : ¬ (k : Int) < n := by omega
          have hkn : k = n := by omega
          have HC1 : Hid (chainB E = true) := chain_iff.2 fun j x y hx hy => HCh.out j x y (by
            have := (List.getElem?_eq_some_iff.1 hy).1; rw [HN.out] at this; omega) hx hy
          clear HCh hkn
          have bw := hb2.trans (hbw.mono hb2.size)
          cases n with
          | zero =>
            have hcan : Hid (canonB E = true) := by
              show canonB E = true
              have : E = [] := List.eq_nil_of_length_eq_zero HN.out
              unfold canonB
              rw [HC1.out, decide_eq_true HLZ.out, this]; rfl
            have hz : (((0 : Nat) : Int) == 0) = true := by decide
            go_wp2
            go_ret
            exact ⟨by rw [hcan.out]; rfl, bw⟩
          | succ m =>
            obtain ⟨ga, e, s, rfl, he, hc, hs⟩ := HV.out m (by omega)
            have c0 := (hbw.cell (lt_of_cell hc)).trans hc
            have fe := HGF.out e (List.mem_of_getElem? he)
            have cP := plainR_any e s wr (hs.below hbw) fe.1 (by have := fe.2.n; omega)
            obtain ⟨u, x, hux⟩ := pieceQ_if e s
            rw [hux] at c0 cP
            have hcan : Hid (canonB E = !plainR e) := by
              show canonB E = _
              unfold canonB lastP
              rw [HC1.out, decide_eq_true HLZ.out, List.getLast?_eq_getElem?, HN.out]
              simp only [Nat.add_sub_cancel, he]
              rfl
            obtain ⟨q, hq⟩ : ∃ q, plainR e = q := ⟨_, rfl⟩
            rw [hq] at cP hcan
            have hm0 : (((m : Int) + 1) == 0) = false := by simp; omega
            have hm1 : ((m : Int) + 1 - 1) = (m : Int) := by omega
            clear he hc hs hux fe hq
            go_wp2_with fail
            refine cP.mono ?_; rintro r w5 ⟨rfl, hb5⟩
            have b5 := bw.trans (hb5.mono bw.size)
            clear cP hb5
            go_wp2
            go_ret
            exact ⟨by rw [hcan.out]; rfl, b5⟩
  | succ e =>
    have hcan : Hid (canonB E = false) := by
      show canonB E = false
      unfold canonB
      rw [decide_eq_false (fun h => by have := (hlc.1 h).1; omega)]; rfl
    rw [hb, errOf_succ] at c1
    obtain ⟨i1, hi1⟩ : ∃ i : Int, ((badP E).1 : Int) = i := ⟨_, rfl⟩
    rw [hi1] at c1
    clear hi1 hb c2 hlc
    go_enter Tryz.func25, Tryz.ntmps25
    go_wp2_with fail
    refine c1.mono ?_; rintro r w2 ⟨v', rfl, _, hz, hb2⟩
    obtain rfl := hz (by omega)
    clear c1 hz
    go_wp2
    go_ret
    exact ⟨by rw [hcan.out]; rfl, hb2⟩
end Go.Proofs.YtfllomfjhkgaoaaGreatDoor
