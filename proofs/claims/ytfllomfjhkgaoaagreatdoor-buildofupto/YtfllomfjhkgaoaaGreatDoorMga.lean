/- What the reference's decode, Breaks, List and Check answer. The order of Plains: a total order. What the reference of layer 2 answers: text, Check, Compare. utf8.ValidString at this program: whether a text breaks nowhere. What the reference of layer 3 says of pairs and lists: its numbers are the code's. What vellumref03.Has answers: the first pair of a key. What vellumref03.whole, Over and Between answer. What vellumref03.Join answers of two patches: the one over the other. The document's answers of the attrs' calls as joins. What vellumref03.Between answers. What vellumref03.Compose, Apply, Diff, Invert and Transform answer. vellumhand.Attrs and Kept. vellumhand.OverAttrs: a list of the call's own is written over and grown: what that changes. vellumhand.Attrs: where the copy lies; what writing over a list leaves of others. vellumhand.Ops: operations as new memory, with spare room. ops.Same and the document's Same: two lists, one by one. ops: lengths of pieces, their sums; ops.Lengths. -/
import Derived.Test.YtfllomfjhkgaoaaGreatDoorRdcd
import Derived.Test.YtfllomfjhkgaoaaGreatDoorOwn
import Derived.OwnWalk
import Derived.Laws.AppendOwn
import Derived.Test.YtfllomfjhkgaoaaGreatDoorVs
import Derived.Shelf.Unicode.ValidAny
import Derived.Test.YtfllomfjhkgaoaaGreatDoorSc
import Derived.Test.YtfllomfjhkgaoaaGreatDoorUtf
import Derived.Test.YtfllomfjhkgaoaaGreatDoorPc
import Derived.Test.YtfllomfjhkgaoaaGreatDoorAx
import Derived.Deep.DeepCutAuto
import Derived.Test.YtfllomfjhkgaoaaGreatDoorRk1
import Derived.Test.YtfllomfjhkgaoaaGreatDoorSpo
import Derived.ArgAppend
import Derived.Deep.RegionHeld3
import Derived.Test.YtfllomfjhkgaoaaGreatDoorQd
import Derived.Test.YtfllomfjhkgaoaaGreatDoorSw
import Derived.Stop.Asserts

/- What the reference's decode, Breaks, List and Check answer. -/
namespace Go.Proofs.YtfllomfjhkgaoaaGreatDoor
open Go Go.RowKit Go.Lib
set_option linter.unusedVariables false

set_option maxHeartbeats 1000000 in
set_option maxRecDepth 100000 in
theorem ref_decode (s : ByteArray) (w : World) (hs : s.size ≤ 35184372087808) :
    Calls Tryz.prog 98 #[.string s] w fun e w' => ∃ v, e = .returned (.tuple #[v, .int .i64 (brk s.data.toList)]) ∧ Own32 w.heap.size w' v (ints (scs s.data.toList)) ∧ (∃ g cap, v = .slice (some ⟨g, 0, none⟩) (scs s.data.toList).length cap) ∧ Below w.heap.size w w' := by
  obtain ⟨t, h1, h2, h3⟩ := text_cases s.data.toList
  have hbk : brk s.data.toList = (encs (scs s.data.toList)).length := rfl
  obtain ⟨rs, hrs⟩ : ∃ rs, scs s.data.toList = rs := ⟨_, rfl⟩
  obtain ⟨B, hB⟩ : ∃ B, brk s.data.toList = B := ⟨_, rfl⟩
  rw [hB, hrs] at hbk
  rw [hrs] at h1 h3 ⊢
  rw [hB]
  obtain ⟨n, hn⟩ : ∃ n, rs.length = n := ⟨_, rfl⟩
  have hpn : pos rs n = B := by rw [← hn, pos_all, hbk]
  have hsz : B + t.length = s.size := by
    have := congrArg List.length h3
    rw [List.length_append, size_toList] at this
    omega
  have hnB : n ≤ B := by
    have : ∀ rs : List Nat, (∀ r ∈ rs, scal r) → rs.length ≤ (encs rs).length := fun rs => by
      induction rs with
      | nil => intro _; exact Nat.le_refl _
      | cons x rs ih =>
        intro hx
        have := enc_pos (hx x (by simp))
        have := ih fun r hr => hx r (by simp [hr])
        simp only [encs, List.length_append, List.length_cons]
        omega
    have := this rs h1
    omega
  have hdrop : ∀ i, s.data.toList.drop (pos rs i) = encs (rs.drop i) ++ t := fun i => by
    rw [h3, List.drop_append_of_le_length (pos_le rs i), drop_pos]
  obtain ⟨i0, z0, hi, hz, hz1, hz2, hz3⟩ := info32
  have hZ : Hid (i0.zero = some z0 ∧ i0.size = 1 ∧ i0.bytes = 4 ∧ z0.cells.size = 1) := ⟨hz, hz1, hz2, hz3⟩
  have HD : Hid (∀ i, s.data.toList.drop (pos rs i) = encs (rs.drop i) ++ t) := hdrop
  have HP : Hid (pos rs n = B) := hpn
  have HN : Hid (rs.length = n) := hn
  have HS : Hid (B + t.length = s.size) := hsz
  have hBs : B ≤ s.size := by omega
  clear hz hz1 hz2 hz3 hdrop hpn hn hsz h3 hrs hB hbk
  go_enter Tryz.func98, Tryz.ntmps98
  go_wp2
  have hst : (w.alloc (.cells #[] 21)).ownsRow w.heap.size 21 1 (.slice (some ⟨w.heap.size, 0, none⟩) 0 0) 0 [] := World.ownsRow_made w #[] 0 (Nat.le_refl _) (Nat.zero_le _) rfl
  have hbi : Below w.heap.size w (w.alloc (.cells #[] 21)) := (Below.refl _ _).alloc (Nat.le_refl _) _
  obtain ⟨v0, hv0⟩ : ∃ v0 : Value, v0 = Value.slice (some ⟨w.heap.size, 0, none⟩) 0 0 := ⟨_, rfl⟩
  have HV0 : Hid (∃ g cap, v0 = .slice (some ⟨g, 0, none⟩) 0 cap) := ⟨_, _, hv0⟩
  rw [← hv0] at hst ⊢
  obtain ⟨wi, hwi⟩ : ∃ wi, wi = w.alloc (.cells #[] 21) := ⟨_, rfl⟩
  rw [← hwi] at hst hbi ⊢
  clear hv0 hwi
  go_loopw [4, 5] (fun v p wr => ∃ i q : Nat, i ≤ n ∧ p = .int .i64 q ∧ q = pos rs i ∧ wr.ownsRow w.heap.size 21 1 v i (cells32 (ints (rs.take i))) ∧ (∃ g cap, v = .slice (some ⟨g, 0, none⟩) i cap) ∧ Below w.heap.size w wr) (fun _ p _ => s.size - (RowKit.intOf p).toNat)
  case atStart => exact ⟨0, 0, Nat.zero_le _, rfl, rfl, hst, HV0.out, hbi⟩
  case round =>
    clear hst hbi
    obtain ⟨i, q, hin, rfl, hq, hown, hform, hbw⟩ := hrel
    have HF : Hid (∃ g cap, u4 = .slice (some ⟨g, 0, none⟩) i cap) := hform
    clear hform
    by_cases hlt : i < n
    · have hr := h1 _ (List.getElem_mem (show i < rs.length by rw [HN.out]; exact hlt))
      have hps := pos_succ rs i (by rw [HN.out]; exact hlt)
      have hpl := enc_pos hr
      have hle : pos rs (i + 1) ≤ s.size := by
        have := congrArg List.length (HD.out (i + 1))
        have h4 := pos_le rs (i + 1)
        have h5 := HP.out
        rw [← HN.out, pos_all] at h5
        omega
      have hd : s.data.toList.drop q = enc (rs[i]'(by rw [HN.out]; exact hlt)) ++ (encs (rs.drop (i + 1)) ++ t) := by
        rw [hq, HD.out i, List.drop_eq_getElem_cons (by rw [HN.out]; exact hlt), encs, List.append_assoc]
      have HT : Hid (cells32 (ints (rs.take (i + 1))) = cells32 (ints (rs.take i)) ++ [.int .i32 ((rs[i]'(by rw [HN.out]; exact hlt) : Nat) : Int)]) := by
        show _ = _
        rw [List.take_succ_eq_append_getElem (by rw [HN.out]; exact hlt)]
        simp only [cells32, ints, List.map_append, List.map_cons, List.map_nil]
      have c := fun W => ref_first_ok s q W (by omega) _ hr _ hd
      obtain ⟨R, hR⟩ : ∃ R, rs[i]'(by rw [HN.out]; exact hlt) = R := ⟨_, rfl⟩
      rw [hR] at hps hpl HT c
      obtain ⟨L, hL⟩ : ∃ L, (enc R).length = L := ⟨_, rfl⟩
      rw [hL] at hps hpl c
      rw [hps, ← hq] at hle
      have HQ : Hid (pos rs (i + 1) = q + L) := by show _ = _; rw [hps, hq]
      clear hd hps hR hL h1 hq hr
      go_wp2_with (first
        | (go_at_call 108; refine (c _).mono ?_; rintro e w2 ⟨rfl, hb2⟩; have hbw2 := hbw.trans (hb2.mono hbw.size); have hown3 : (w2.alloc (.cells #[.int .i32 R] 21)).ownsRow w.heap.size 21 1 _ i _ := owns_below (owns_below hown hb2) ((Below.refl _ _).alloc (Nat.le_refl _) _))
        | (at_builtin; refine wpList_append_own _ rfl _ _ 161 rfl w.heap.size 21 i0 z0 1 4 Tryz.underlying161 hi hZ.out.1 hZ.out.2.1 hZ.out.2.2.1 hZ.out.2.2.2 (by decide) _ i _ rfl hown3 ⟨w2.heap.size, 0, none⟩ 1 1 [.int .i32 R] rfl rfl (by intro j u hj; cases j with | zero => (simp at hj; subst hj; simp [Addr.add]) | succ j => simp at hj) (fun u hu => by rw [List.mem_singleton.1 hu]; rfl) (by unfold maxLen; omega) (by omega) (by simp; have := hbw2.size; omega) ?_; intro v' w3 hown4 hgr4 _))
      have hb3 : Below w.heap.size w w3 := (hbw2.alloc hbw2.size _).grown hgr4 (by have := hbw2.size; simp; omega) (fun k hk => (owns_block hown3 k hk).1)
      go_roundw
      case rel => exact ⟨i + 1, q + L, by omega, by go_num, HQ.out.symm, by rw [HT.out]; exact hown4, own_val hown4 (by omega), hb3⟩
      case measure => simp [RowKit.intOf]; omega
    · obtain rfl : i = n := by omega
      have hqB : q = B := by rw [hq, HP.out]
      have hall : rs.take i = rs := List.take_of_length_le (by rw [HN.out]; exact Nat.le_refl _)
      have HO : Hid (wr.ownsRow w.heap.size 21 1 u4 (ints rs).length (cells32 (ints rs))) := by
        show wr.ownsRow _ _ _ _ _ _
        rw [ints_length, HN.out]
        rw [hall] at hown
        exact hown
      subst hqB
      by_cases hend : q < s.size
      · have hst : stuckL (s.data.toList.drop q) := by
          have e0 : rs.drop i = [] := List.drop_eq_nil_of_le (by rw [HN.out]; exact Nat.le_refl _)
          have := HD.out i
          rw [← hq, e0] at this
          simp only [encs, List.nil_append] at this
          rw [this]
          exact h2
        have c := ref_first_bad s q wr (by omega) hend hst
        have hendI : (q : Int) < s.size := by omega
        clear hown hall hq h1 hst
        go_wp2_with (go_at_call 108; refine c.mono ?_; rintro e w2 ⟨rfl, hb2⟩)
        go_ret2
        exact ⟨_, rfl, owns_below HO.out hb2, by rw [HN.out]; exact HF.out, hbw.trans (hb2.mono hbw.size)⟩
      · have hendI : ¬ (q : Int) < s.size := by omega
        clear hown hall hq h1
        go_wp2
        go_ret2
        exact ⟨_, rfl, HO.out, by rw [HN.out]; exact HF.out, hbw⟩

theorem ref_breaks (s : ByteArray) (w : World) (hs : s.size ≤ 35184372087808) :
    Calls Tryz.prog 89 #[.string s] w fun e w' => e = .returned (.int .i64 (brk s.data.toList)) ∧ Below w.heap.size w w' := by
  have c := ref_decode s w hs
  go_enter Tryz.func89, Tryz.ntmps89
  go_wp2_with (go_at_call 98; refine c.mono ?_; rintro e w2 ⟨v, rfl, _, _, hb2⟩)
  go_ret
  exact ⟨rfl, hb2⟩
end Go.Proofs.YtfllomfjhkgaoaaGreatDoor

/- The order of Plains: a total order. -/
namespace Go.Proofs.YtfllomfjhkgaoaaGreatDoor
open Go Go.RowKit Go.Lib
set_option linter.unusedVariables false

theorem ci_cases (x y : Int) : (x < y ∧ compareInt x y = -1) ∨ (x = y ∧ compareInt x y = 0) ∨ (y < x ∧ compareInt x y = 1) := by
  unfold compareInt
  by_cases h : x < y
  · left; simp [h]
  · by_cases h2 : x > y
    · right; right; simp [h, h2]
    · right; left
      refine ⟨by omega, by simp [h, h2]⟩
theorem cmp_range (k n : Int) (t : ByteArray) (k' n' : Int) (t' : ByteArray) : -1 ≤ cmpP k n t k' n' t' ∧ cmpP k n t k' n' t' ≤ 1 := by
  unfold cmpP orZ
  have h3 := cb_range t.data.toList t'.data.toList
  rcases ci_cases k k' with ⟨_, h1⟩ | ⟨_, h1⟩ | ⟨_, h1⟩ <;> rw [h1] <;> simp
  rcases ci_cases n n' with ⟨_, h2⟩ | ⟨_, h2⟩ | ⟨_, h2⟩ <;> rw [h2] <;> simp
  omega
theorem cmp_swap (k n : Int) (t : ByteArray) (k' n' : Int) (t' : ByteArray) : cmpP k' n' t' k n t = - cmpP k n t k' n' t' := by
  unfold cmpP orZ
  rcases ci_cases k k' with ⟨a1, h1⟩ | ⟨a1, h1⟩ | ⟨a1, h1⟩ <;> rcases ci_cases k' k with ⟨a2, h2⟩ | ⟨a2, h2⟩ | ⟨a2, h2⟩ <;> rw [h1, h2] <;> simp <;> (try omega)
  rcases ci_cases n n' with ⟨b1, g1⟩ | ⟨b1, g1⟩ | ⟨b1, g1⟩ <;> rcases ci_cases n' n with ⟨b2, g2⟩ | ⟨b2, g2⟩ | ⟨b2, g2⟩ <;> rw [g1, g2] <;> simp <;> (try omega)
  exact cb_swap _ _
theorem cmp_zero (k n : Int) (t : ByteArray) (k' n' : Int) (t' : ByteArray) : cmpP k n t k' n' t' = 0 ↔ samB k n t k' n' t' = true := by
  rw [samB_iff]
  unfold cmpP orZ
  rcases ci_cases k k' with ⟨a1, h1⟩ | ⟨a1, h1⟩ | ⟨a1, h1⟩ <;> rw [h1] <;> simp
  · omega
  · rcases ci_cases n n' with ⟨b1, g1⟩ | ⟨b1, g1⟩ | ⟨b1, g1⟩ <;> rw [g1] <;> simp
    · omega
    · rw [cb_zero]
      constructor
      · intro h; exact ⟨a1, b1, ByteArray.ext (Array.ext' h)⟩
      · rintro ⟨_, _, rfl⟩; rfl
    · omega
  · omega
theorem cmp_trans (k n : Int) (t : ByteArray) (k' n' : Int) (t' : ByteArray) (k2 n2 : Int) (t2 : ByteArray) (h1 : cmpP k n t k' n' t' ≤ 0) (h2 : cmpP k' n' t' k2 n2 t2 ≤ 0) :
    cmpP k n t k2 n2 t2 ≤ 0 ∧ (cmpP k n t k' n' t' < 0 → cmpP k n t k2 n2 t2 < 0) := by
  unfold cmpP orZ at *
  rcases ci_cases k k' with ⟨a1, e1⟩ | ⟨a1, e1⟩ | ⟨a1, e1⟩ <;> rw [e1] at h1 ⊢ <;>
  rcases ci_cases k' k2 with ⟨a2, e2⟩ | ⟨a2, e2⟩ | ⟨a2, e2⟩ <;> rw [e2] at h2 <;>
  rcases ci_cases k k2 with ⟨a3, e3⟩ | ⟨a3, e3⟩ | ⟨a3, e3⟩ <;> rw [e3] <;> simp at h1 h2 ⊢ <;> (try omega)
  rcases ci_cases n n' with ⟨b1, g1⟩ | ⟨b1, g1⟩ | ⟨b1, g1⟩ <;> rw [g1] at h1 ⊢ <;>
  rcases ci_cases n' n2 with ⟨b2, g2⟩ | ⟨b2, g2⟩ | ⟨b2, g2⟩ <;> rw [g2] at h2 <;>
  rcases ci_cases n n2 with ⟨b3, g3⟩ | ⟨b3, g3⟩ | ⟨b3, g3⟩ <;> rw [g3] <;> simp at h1 h2 ⊢ <;> (try omega)
  have := cb_trans _ _ _ h1 h2
  exact ⟨this.1, this.2.1⟩
theorem cmp_num {k n n' : Int} : cmpP k n ⟨#[]⟩ k n' ⟨#[]⟩ = compareInt n n' := by
  unfold cmpP orZ
  rcases ci_cases k k with ⟨a1, h1⟩ | ⟨a1, h1⟩ | ⟨a1, h1⟩
  · omega
  · rw [h1]; simp
    intro h
    rw [h, cb_zero]
  · omega
theorem cmp_text {t t' : ByteArray} : cmpP 3 0 t 3 0 t' = compareBytes t.data.toList t'.data.toList := by
  unfold cmpP orZ
  rcases ci_cases 3 3 with ⟨a1, h1⟩ | ⟨a1, h1⟩ | ⟨a1, h1⟩
  · omega
  · rcases ci_cases 0 0 with ⟨a2, h2⟩ | ⟨a2, h2⟩ | ⟨a2, h2⟩
    · omega
    · rw [h1, h2]; simp
    · omega
  · omega

end Go.Proofs.YtfllomfjhkgaoaaGreatDoor

/- What the reference of layer 2 answers: text, Check, Compare. -/
namespace Go.Proofs.YtfllomfjhkgaoaaGreatDoor
open Go Go.RowKit Go.Lib
set_option linter.unusedVariables false

theorem ref_utf8 (s : ByteArray) (w : World) (hs : s.size ≤ 35184372087808) (b : Bool) (hb : decide (brk s.data.toList = s.size) = b) :
    Calls Tryz.prog 78 #[.string s] w fun e w' => e = .returned (.bool b) ∧ Below w.heap.size w w' := by
  have c := ref_breaks s w hs
  obtain ⟨B, hB⟩ : ∃ B, brk s.data.toList = B := ⟨_, rfl⟩
  rw [hB] at c hb
  have e : ((B : Int) == (s.size : Int)) = b := by
    rw [← hb, Bool.eq_iff_iff]; simp; omega
  clear hB hb
  go_enter Tryz.func78, Tryz.ntmps78
  go_wp2_with (go_at_call 89; refine c.mono ?_; rintro r w2 ⟨rfl, hb2⟩)
  go_ret
  exact ⟨rfl, hb2⟩

theorem ref_txt (t : ByteArray) (w : World) (hs : t.size ≤ 35184372087808) :
    Calls Tryz.prog 84 #[.string t] w fun e w' => e = .returned (.int .i64 (txtE t)) ∧ Below w.heap.size w w' := by
  rcases txtE_cases t with ⟨he, hv, hl⟩ | ⟨he, hv, hl⟩ | ⟨he, hv⟩
  all_goals rw [he]
  · have c := ref_utf8 t w hs true (by simpa using hv)
    have hl' : (t.size : Int) ≤ 1048576 := by omega
    clear hv he
    go_enter Tryz.func84, Tryz.ntmps84
    go_wp2_with (go_at_call 78; refine c.mono ?_; rintro r w2 ⟨rfl, hb2⟩)
    go_ret
    exact ⟨rfl, hb2⟩
  · have c := ref_utf8 t w hs true (by simpa using hv)
    have hl' : (1048576 : Int) < t.size := by omega
    clear hv he
    go_enter Tryz.func84, Tryz.ntmps84
    go_wp2_with (go_at_call 78; refine c.mono ?_; rintro r w2 ⟨rfl, hb2⟩)
    go_ret
    exact ⟨rfl, hb2⟩
  · have c := ref_utf8 t w hs false (by simpa using hv)
    clear hv he
    go_enter Tryz.func84, Tryz.ntmps84
    go_wp2_with (go_at_call 78; refine c.mono ?_; rintro r w2 ⟨rfl, hb2⟩)
    go_ret
    exact ⟨rfl, hb2⟩

theorem ref_chk (k n : Int) (t : ByteArray) (w : World) (hs : t.size ≤ 35184372087808) :
    Calls Tryz.prog 73 #[pl k n t] w fun e w' => e = .returned (.int .i64 (chk k n t)) ∧ Below w.heap.size w w' := by
  have b0 := (Below.refl w.heap.size w).alloc (Nat.le_refl _) (.cells #[.int .i64 k, .int .i64 n, .string t] 45)
  have cT := from_below b0 (ref_txt t _ hs)
  obtain ⟨E, hE⟩ : ∃ E, chk k n t = E := ⟨_, rfl⟩
  rw [hE]
  by_cases h3 : k = 3
  · subst h3
    by_cases hn : n = 0
    · subst hn
      rw [chk_text] at hE
      rw [hE] at cT
      clear hE
      go_enter Tryz.func73, Tryz.ntmps73
      go_wp2_with (go_at_call 84; refine cT.mono ?_; rintro r w2 ⟨rfl, hb2⟩)
      go_ret
      exact ⟨rfl, hb2⟩
    · have hd : (n == 0) = false := by simpa using hn
      have : E = 5 := by rw [← hE]; simp [chk, fitB, hn]
      subst this
      clear hE cT hn
      go_enter Tryz.func73, Tryz.ntmps73
      go_wp2
      go_ret
      exact ⟨rfl, b0⟩
  · have hT : fitB k n t = true → t = ⟨#[]⟩ := fun hf => by
      have hf2 := hf
      unfold fitB at hf2
      repeat' split at hf2
      all_goals first | (simp only [Bool.and_eq_true, emp_iff] at hf2; exact hf2.2) | exact emp_iff.1 hf2 | (exfalso; omega) | (exfalso; cases hf2)
    have hE2 : E = if fitB k n t then 0 else 5 := by
      rw [← hE, chk]
      by_cases hf : fitB k n t = true
      · rw [if_pos hf, if_pos hf, hT hf, txtE_nil]
      · rw [if_neg hf, if_neg hf]
    clear hE hT cT
    by_cases h0 : k = 0
    · subst h0
      by_cases hn : n = 0
      · subst hn
        cases hEm : t.toList.isEmpty <;>
        · simp [fitB, hEm] at hE2
          subst hE2
          go_enter Tryz.func73, Tryz.ntmps73
          go_wp2
          go_ret
          exact ⟨rfl, b0⟩
      · have hd : (n != 0) = true := by simpa using hn
        simp [fitB, hn] at hE2
        subst hE2
        clear hn
        go_enter Tryz.func73, Tryz.ntmps73
        go_wp2
        go_ret
        exact ⟨rfl, b0⟩
    by_cases h1 : k = 1
    · subst h1
      clear h0 h3
      by_cases hlo : n < 0
      · have a1 : n ≠ 0 := by omega
        have a2 : n ≠ 1 := by omega
        simp [fitB, a1, a2] at hE2
        subst hE2
        clear a1 a2
        go_enter Tryz.func73, Tryz.ntmps73
        go_wp2
        go_ret
        exact ⟨rfl, b0⟩
      by_cases hhi : 1 < n
      · have a1 : n ≠ 0 := by omega
        have a2 : n ≠ 1 := by omega
        simp [fitB, a1, a2] at hE2
        subst hE2
        clear a1 a2
        go_enter Tryz.func73, Tryz.ntmps73
        go_wp2
        go_ret
        exact ⟨rfl, b0⟩
      · have hn : n = 0 ∨ n = 1 := by omega
        clear hlo hhi
        rcases hn with rfl | rfl
        all_goals
          cases hEm : t.toList.isEmpty <;>
          · simp [fitB, hEm] at hE2
            subst hE2
            go_enter Tryz.func73, Tryz.ntmps73
            go_wp2
            go_ret
            exact ⟨rfl, b0⟩
    by_cases h2 : k = 2
    · subst h2
      clear h0 h1 h3
      cases hEm : t.toList.isEmpty <;>
      · simp [fitB, hEm] at hE2
        subst hE2
        go_enter Tryz.func73, Tryz.ntmps73
        go_wp2
        go_ret
        exact ⟨rfl, b0⟩
    · have d0 : (k == 0) = false := by simpa using h0
      have d1 : (k == 1) = false := by simpa using h1
      have d2 : (k == 2) = false := by simpa using h2
      have d3 : (k == 3) = false := by simpa using h3
      simp [fitB, h0, h1, h2, h3] at hE2
      subst hE2
      clear h0 h1 h2 h3
      go_enter Tryz.func73, Tryz.ntmps73
      go_wp2
      go_ret
      exact ⟨rfl, b0⟩

end Go.Proofs.YtfllomfjhkgaoaaGreatDoor

/- utf8.ValidString at this program: whether a text breaks nowhere. -/
namespace Go.Proofs.YtfllomfjhkgaoaaGreatDoor
open Go Go.RowKit Go.Lib Go.Shelf
set_option linter.unusedVariables false

def Tryz.lays196_ren : Go.Shelf.Ren := ⟨fun | 196 => 72 | 259 => 83 | n => n, fun | 0 => 0 | 3 => 3 | 4 => 4 | 5 => 5 | 9 => 9 | 12 => 12 | 46 => 140 | 53 => 159 | 119 => 136 | 138 => 138 | 139 => 139 | n => n, fun | 3 => 19 | 4 => 20 | n => n⟩
theorem Tryz.lays196 : Go.Proofs.Lays.n196 Tryz.prog Tryz.lays196_ren := {
  mixed := by kernel_rfl
  f196 := Tryz.func72.trans (congrArg some (by kernel_rfl))
  f259 := Tryz.func83.trans (congrArg some (by kernel_rfl))
  t0 := Tryz.underlying0
  a0 := Tryz.isAgg0
  z0 := Tryz.sizeOf0
  v0 := Tryz.zeroValue0
  t3 := Tryz.underlying3
  a3 := Tryz.isAgg3
  z3 := Tryz.sizeOf3
  v3 := Tryz.zeroValue3
  t4 := Tryz.underlying4
  a4 := Tryz.isAgg4
  z4 := Tryz.sizeOf4
  v4 := Tryz.zeroValue4
  t5 := Tryz.underlying5
  a5 := Tryz.isAgg5
  z5 := Tryz.sizeOf5
  v5 := Tryz.zeroValue5
  t9 := Tryz.underlying9
  a9 := Tryz.isAgg9
  z9 := Tryz.sizeOf9
  v9 := Tryz.zeroValue9
  t12 := Tryz.underlying12
  a12 := Tryz.isAgg12
  z12 := Tryz.sizeOf12
  v12 := Tryz.zeroValue12
  t46 := Tryz.underlying140
  a46 := Tryz.isAgg140
  z46 := Tryz.sizeOf140
  v46 := Tryz.zeroValue140
  t53 := Tryz.underlying159
  a53 := Tryz.isAgg159
  z53 := Tryz.sizeOf159
  v53 := Tryz.zeroValue159
  t119 := Tryz.underlying136
  a119 := Tryz.isAgg136
  z119 := Tryz.sizeOf136
  t138 := Tryz.underlying138
  a138 := Tryz.isAgg138
  z138 := Tryz.sizeOf138
  v138 := Tryz.zeroValue138
  t139 := Tryz.underlying139
  a139 := Tryz.isAgg139
  z139 := Tryz.sizeOf139
  v139 := Tryz.zeroValue139
  g3 := by kernel_rfl
  g4 := by kernel_rfl }

theorem validD_encs : ∀ (rs : List Nat) (t : List UInt8), (∀ r ∈ rs, scal r) → validD (encs rs ++ t) = validD t
  | [], t, _ => rfl
  | r :: rs, t, h => by
    have hr := h r (List.mem_cons_self ..)
    have hp := enc_pos hr
    rw [encs, List.append_assoc, validD_step _ (by intro e; have := congrArg List.length e; rw [List.length_append] at this; simp only [List.length_nil] at this; omega), dec_enc hr, if_neg (by
      rintro ⟨h1, h2⟩
      simp only at h1 h2
      rw [enc_len hr, h1] at h2
      simp at h2)]
    rw [List.drop_left]
    exact validD_encs rs t (fun x hx => h x (List.mem_cons_of_mem _ hx))
theorem validD_brk (s : ByteArray) : validD s.data.toList = decide (brk s.data.toList = s.size) := by
  obtain ⟨t, h1, h2, h3⟩ := text_cases s.data.toList
  have hb := brk_eq h1 h2
  rw [← h3] at hb
  have hlen : s.data.toList.length = s.size := size_toList s
  have hl := congrArg List.length h3
  rw [List.length_append, hlen] at hl
  rw [hb]
  conv => lhs; rw [h3, validD_encs _ _ h1]
  rcases h2 with rfl | h2
  · simp only [List.length_nil] at hl
    rw [decide_eq_true (by omega)]; rfl
  · have hne : t ≠ [] := by rintro rfl; revert h2; decide
    rw [validD_step t hne, if_pos ⟨by rw [h2], by rw [h2]⟩]
    have : 0 < t.length := List.length_pos_iff.2 hne
    rw [decide_eq_false (by omega)]
theorem valid_any {I : List Nat} {a : Nat → Addr} (s : ByteArray) (w : World) (hS : Std I a w) (hs : s.size ≤ 281474976710656) :
    Calls Tryz.prog 72 #[.string s] w fun e w' => e = .returned (.bool (decide (brk s.data.toList = s.size))) ∧ Below w.heap.size w w' := by
  have := Any.utf8_ValidString Tryz.lays196 s w (by omega) hS.tabs
  rw [validD_brk] at this
  exact this
end Go.Proofs.YtfllomfjhkgaoaaGreatDoor

/- What the reference of layer 3 says of pairs and lists: its numbers are the code's. -/
namespace Go.Proofs.YtfllomfjhkgaoaaGreatDoor
open Go Go.RowKit Go.Lib
set_option linter.unusedVariables false

def Tiny (L : List A2) : Prop := ∀ q ∈ L, q.1.size ≤ 1048576 ∧ q.2.2.2.size ≤ 1048576
theorem tiny_small {L : List A2} (h : Tiny L) : Small L := fun q hq => by have := h q hq; unfold big; omega
theorem geq_run {P : Program} {t : TypeId} (x y : ByteArray) (b : Bool) (h : (!decide (kc x y < 0)) = b) (w : World) : (binOp .geq t (.string x) (.string y)).run P w = .ok (.bool b) w := by
  rw [← h, ← less_kc]
  simp [binOp, Op.stringOp]

set_option maxHeartbeats 1000000 in
theorem ref_pair {I : List Nat} {a : Nat → Addr} (q : A2) (w : World) (hS : Std I a w) (h1 : q.1.size ≤ 1048576) (h2 : q.2.2.2.size ≤ 1048576) :
    Calls Tryz.prog 57 #[atV q] w fun e w' => e = .returned (.int .i64 (pairE q)) ∧ Below w.heap.size w w' := by
  obtain ⟨k, x, n, t⟩ := q
  simp only at h1 h2
  have b0 := (Below.refl w.heap.size w).alloc (Nat.le_refl _) (.cells #[.string k, .int .i64 x, .int .i64 n, .string t] 106)
  by_cases hE : k.toList.isEmpty = true
  · have hz : k = ⟨#[]⟩ := emp_iff.1 hE
    subst hz
    rw [show pairE (⟨#[]⟩, x, n, t) = 6 by unfold pairE; rw [if_pos (Or.inl hE)]]
    clear hS hE
    go_enter Tryz.func57, Tryz.ntmps57
    go_wp2
    go_ret
    exact ⟨rfl, b0⟩
  · have hk : 0 < k.size := by
      rcases Nat.eq_zero_or_pos k.size with h | h
      · exact absurd (emp_iff.2 (ByteArray.ext (Array.eq_empty_of_size_eq_zero h))) hE
      · exact h
    have hkI : ¬ (k.size : Int) < 1 := by omega
    by_cases hL : 64 < k.size
    · rw [show pairE (k, x, n, t) = 6 by unfold pairE; rw [if_pos (Or.inr hL)]]
      have hLI : (64 : Int) < k.size := by omega
      clear hS hE
      go_enter Tryz.func57, Tryz.ntmps57
      go_wp2
      go_ret
      exact ⟨rfl, b0⟩
    · have hLI : ¬ (64 : Int) < k.size := by omega
      have hE2 : ¬ (k.toList.isEmpty = true ∨ 64 < k.size) := fun h => h.elim hE hL
      have cV := valid_any k _ (hS.below b0) (by omega)
      by_cases hB : brk k.data.toList = k.size
      · rw [show pairE (k, x, n, t) = chk x n t by unfold pairE; rw [if_neg hE2, if_neg (by simpa using hB)]]
        rw [decide_eq_true hB] at cV
        have c2 := fun W (hW : Below w.heap.size w W) => from_below hW (ref_chk x n t W (by omega))
        obtain ⟨E, hEE⟩ : ∃ E, chk x n t = E := ⟨_, rfl⟩
        rw [hEE] at c2 ⊢
        clear hS hE hB hEE hE2
        go_enter Tryz.func57, Tryz.ntmps57
        go_wp2_with (first
          | (go_at_call 72; refine cV.mono ?_; rintro e w1 ⟨rfl, b1⟩; have b := b0.trans (b1.mono b0.size); have d1 := b1.cell (p := ⟨w.heap.size, 1, none⟩) (by simp); have d2 := b1.cell (p := ⟨w.heap.size, 2, none⟩) (by simp); have d3 := b1.cell (p := ⟨w.heap.size, 3, none⟩) (by simp))
          | (go_at_call 73; refine (c2 _ b).mono ?_; rintro e w2 ⟨rfl, b2⟩))
        go_ret
        exact ⟨rfl, b2⟩
      · rw [show pairE (k, x, n, t) = 1 by unfold pairE; rw [if_neg hE2, if_pos hB]]
        rw [decide_eq_false hB] at cV
        clear hS hE hB hE2
        go_enter Tryz.func57, Tryz.ntmps57
        go_wp2_with (go_at_call 72; refine cV.mono ?_; rintro e w1 ⟨rfl, b1⟩)
        go_ret
        exact ⟨rfl, b0.trans (b1.mono b0.size)⟩

set_option maxHeartbeats 2000000 in
set_option maxRecDepth 100000 in
theorem ref_check {I : List Nat} {a : Nat → Addr} (v : Value) (L : List A2) (nulls : Bool) (w : World) (hS : Std I a w) (hv : RowA w v L)
    (hs : Tiny L) (hl : L.length ≤ 4611686018427387904) :
    Calls Tryz.prog 26 #[v, .bool nulls] w fun r w' => r = .returned (.int .i64 (listE nulls none L)) ∧ Below w.heap.size w w' := by
  obtain ⟨n, hn⟩ : ∃ n, L.length = n := ⟨_, rfl⟩
  obtain ⟨p, cap, rfl, hcap, hc⟩ := hv
  rw [hn] at hl hcap ⊢
  have HN : Hid (L.length = n) := hn
  have HC : Hid _ := hc
  have HS : Hid _ := hS
  have HZ : Hid _ := hs
  clear hc hS hs hn
  go_enter Tryz.func26, Tryz.ntmps26
  go_wp2
  go_loopw [10] (fun i wr => ∃ (k : Nat) (pv : Option ByteArray), k ≤ n ∧ i = .int .i64 k ∧ Below w.heap.size w wr ∧ Hid (listE nulls none L = listE nulls pv (L.drop k) ∧ (k = 0 → pv = none) ∧ ∀ j q, k = j + 1 → L[j]? = some q → pv = some q.1)) (fun i _ => n - (RowKit.intOf i).toNat)
  case atStart => exact ⟨0, none, Nat.zero_le _, rfl, Below.refl _ _, rfl, fun _ => rfl, fun j q h => by omega⟩
  case round =>
    obtain ⟨k, pv, hk, rfl, hbw, H⟩ := hrel
    by_cases hlt : k < n
    · have hltI : (k : Int) < n := by omega
      obtain ⟨q, hq⟩ : ∃ q, L[k]? = some q := ⟨_, List.getElem?_eq_getElem (by rw [HN.out]; exact hlt)⟩
      obtain ⟨b, off, rfl, hp⟩ := HC.out k q hq
      have hpw := hp.below hbw
      obtain ⟨c0, c1, c2, c3⟩ := hpw
      have hzs := HZ.out _ (List.mem_of_getElem? hq)
      have hd : L.drop k = q :: L.drop (k + 1) := by
        rw [List.drop_eq_getElem_cons (by rw [HN.out]; exact hlt)]
        rw [List.getElem?_eq_getElem (by rw [HN.out]; exact hlt)] at hq
        rw [Option.some.inj hq]
      obtain ⟨qk, qx, qn, qt⟩ := q
      simp only at c0 c1 c2 c3 hzs
      have hb1 : Below w.heap.size w (wr.alloc (.cells #[.string qk, .int .i64 qx, .int .i64 qn, .string qt] 106)) := hbw.alloc hbw.size _
      have cP := ref_pair (qk, qx, qn, qt) _ (HS.out.below hb1) hzs.1 hzs.2
      by_cases hE : pairE (qk, qx, qn, qt) = 0
      · rw [hE] at cP
        have hE1 : listE nulls none L = (if (!nulls && qx == 0) = true then 7 else if above pv qk = true then listE nulls (some qk) (L.drop (k + 1)) else 8) := by
          rw [H.out.1, hd, listE, if_pos hE]
        have HP : Hid ((k = 0 → pv = none) ∧ ∀ j q, k = j + 1 → L[j]? = some q → pv = some q.1) := H.out.2
        have HQ : Hid (L[k]? = some (qk, qx, qn, qt)) := hq
        have bp : ∀ W, Below (wr.alloc (.cells #[.string qk, .int .i64 qx, .int .i64 qn, .string qt] 106)).heap.size (wr.alloc (.cells #[.string qk, .int .i64 qx, .int .i64 qn, .string qt] 106)) W → PairAt W wr.heap.size 0 (qk, qx, qn, qt) := fun W hW => PairAt.below (w := wr.alloc (.cells #[.string qk, .int .i64 qx, .int .i64 qn, .string qt] 106)) ⟨by simp, by simp, by simp, by simp⟩ hW
        have HE1 : Hid _ := hE1
        clear hzs hq hd hE hE1 H hp
        by_cases hN : (!nulls && qx == 0) = true
        · have HR : Hid (listE nulls none L = 7) := by
            show _ = _
            rw [HE1.out, if_pos hN]
          simp only [Bool.and_eq_true, Bool.not_eq_true', beq_iff_eq] at hN
          obtain ⟨rfl, rfl⟩ := hN
          clear HE1 HP HQ
          go_wp2_with fail
          refine cP.mono ?_; rintro r w3 ⟨rfl, hb3⟩
          obtain ⟨e0, e1, e2, e3⟩ := bp _ hb3
          clear bp
          go_wp2
          go_ret
          rw [HR.out]
          exact ⟨rfl, hb1.trans (hb3.mono hb1.size)⟩
        · have HN2 : Hid (¬ (!nulls && qx == 0) = true) := hN
          have hcase : (qx == 0) = false ∨ ((qx == 0) = true ∧ nulls = true) := by
            cases hx : (qx == 0)
            · exact Or.inl rfl
            · cases hnl : nulls
              · rw [hx, hnl] at hN; exact absurd rfl hN
              · exact Or.inr ⟨rfl, rfl⟩
          clear hN
          rcases hcase with hx | ⟨hx, rfl⟩
          all_goals
            go_wp2_with fail
            refine cP.mono ?_; rintro r w3 ⟨rfl, hb3⟩
            obtain ⟨e0, e1, e2, e3⟩ := bp _ hb3
            have hb4 := hb1.trans (hb3.mono hb1.size)
            clear bp hb3 c0 c1 c2 c3
            go_wp2_with fail
            cases k with
            | zero =>
              have hg0 : decide ((0 : Int) < ((0 : Nat) : Int)) = false := by decide
              go_quiet (fail)
              go_wp2
              go_roundw
              case rel =>
                refine ⟨1, some qk, by omega, by go_num, by first | exact hb4 | exact below_drewN hb4 _, ?_, by omega, fun j q h1 h2 => ?_⟩
                · rw [HE1.out, if_neg HN2.out, if_pos (by rw [HP.out.1 rfl]; rfl)]
                · obtain rfl : j = 0 := by omega
                  rw [HQ.out] at h2
                  rw [← Option.some.inj h2]
              case measure => simp [RowKit.intOf]; omega
            | succ j =>
              obtain ⟨q', hq'⟩ : ∃ q', L[j]? = some q' := ⟨_, List.getElem?_eq_getElem (by rw [HN.out]; omega)⟩
              obtain ⟨b', off', hbo, hp'⟩ := HC.out j q' hq'
              simp only [Option.some.injEq, Addr.mk.injEq, and_true] at hbo
              obtain ⟨rfl, rfl⟩ := hbo
              have d0 := (hp'.below hb4).c0
              have hpv := HP.out.2 j q' rfl hq'
              have hg0 : (0 : Int) < ((j + 1 : Nat) : Int) := by omega
              have hg1 : (((j + 1 : Nat) : Int) - 1) = (j : Int) := by omega
              have hg2 : (j : Int) < n := by omega
              have hg3 : (0 : Int) ≤ j := by omega
              have hwr : IntKind.i64.wrap (j : Int) = (j : Int) := IntWalk.i64_in _ (by omega)
              obtain ⟨k', p'⟩ := q'
              simp only at d0 hpv
              by_cases hlt2 : kc k' qk < 0
              · have hless := geq_run (P := Tryz.prog) (t := 9) k' qk false (by simpa using hlt2)
                have HR : Hid (listE _ none L = listE _ (some qk) (L.drop (j + 1 + 1))) := HE1.out.trans (by rw [if_neg HN2.out, if_pos (by rw [hpv]; simpa [above] using hlt2)])
                have HP2 : Hid (∀ i q, j + 1 + 1 = i + 1 → L[i]? = some q → some qk = some q.1) := fun i q h1 h2 => by
                  obtain rfl : i = j + 1 := by omega
                  rw [HQ.out] at h2
                  rw [← Option.some.inj h2]
                clear hlt2 hpv hp' hq' HP HE1
                go_quiet (fail)
                go_wp2
                go_roundw
                case rel => exact ⟨j + 1 + 1, some qk, by omega, by go_num, by first | exact hb4 | exact below_drewN hb4 _, HR.out, fun h => by omega, HP2.out⟩
                case measure => simp [RowKit.intOf]; omega
              · have hless := geq_run (P := Tryz.prog) (t := 9) k' qk true (by simpa using hlt2)
                have HR : Hid (listE _ none L = 8) := HE1.out.trans (by rw [if_neg HN2.out, if_neg (by rw [hpv]; simpa [above] using hlt2)])
                clear hlt2 hpv hp' hq' HP HE1
                go_quiet (fail)
                go_wp2
                go_ret
                rw [HR.out]
                exact ⟨rfl, by first | exact hb4 | exact below_drewN hb4 _⟩
      · obtain ⟨e, he⟩ : ∃ e, pairE (qk, qx, qn, qt) = e + 1 := ⟨pairE (qk, qx, qn, qt) - 1, by omega⟩
        have HR : Hid (listE nulls none L = e + 1) := by
          show _ = _
          rw [H.out.1, hd, listE, if_neg hE, he]
        have hen : (((e + 1 : Nat) : Int) != 0) = true := by simp; omega
        rw [he] at cP
        clear hzs hq hd hE he H hp
        go_wp2_with fail
        refine cP.mono ?_; rintro r w3 ⟨rfl, hb3⟩
        go_wp2
        go_ret
        rw [HR.out]
        exact ⟨rfl, hb1.trans (hb3.mono hb1.size)⟩
    · have hltI : ¬ (k : Int) < n := by omega
      have HR : Hid (listE nulls none L = 0) := by
        show _ = _
        rw [H.out.1, List.drop_of_length_le (by rw [HN.out]; omega), listE]
      clear H
      go_wp2
      go_ret
      rw [HR.out]
      exact ⟨rfl, hbw⟩

end Go.Proofs.YtfllomfjhkgaoaaGreatDoor

/- What vellumref03.Has answers: the first pair of a key. -/
namespace Go.Proofs.YtfllomfjhkgaoaaGreatDoor
open Go Go.RowKit Go.Lib
set_option linter.unusedVariables false


set_option maxHeartbeats 2000000 in
set_option maxRecDepth 100000 in
theorem has_any (v : Value) (L : List A2) (key : ByteArray) (w : World) (hv : RowA w v L) (hl : L.length ≤ 4611686018427387904) :
    Calls Tryz.prog 85 #[v, .string key] w fun r w' => r = .returned (.tuple #[plV ((look key L).getD z0), .bool (look key L).isSome]) ∧ Below w.heap.size w w' := by
  obtain ⟨n, hn⟩ : ∃ n, L.length = n := ⟨_, rfl⟩
  obtain ⟨p, cap, rfl, hcap, hc⟩ := hv
  rw [hn] at hl hcap ⊢
  have HN : Hid (L.length = n) := hn
  have HC : Hid _ := hc
  clear hc hn
  go_enter Tryz.func85, Tryz.ntmps85
  go_wp2_with fail
  obtain ⟨W0, hW0⟩ : ∃ W0, W0 = w.alloc (.cells #[.int .i64 0, .int .i64 0, .string ⟨#[]⟩] 45) := ⟨_, rfl⟩
  have r0 : W0.cell? ⟨w.heap.size, 0, none⟩ = some (.int .i64 0) := by rw [hW0]; simp
  have r1 : W0.cell? ⟨w.heap.size, 1, none⟩ = some (.int .i64 0) := by rw [hW0]; simp
  have r2 : W0.cell? ⟨w.heap.size, 2, none⟩ = some (.string ⟨#[]⟩) := by rw [hW0]; simp
  have f0 : W0.frozen? ⟨w.heap.size, 0, none⟩ = false := by rw [hW0]; simp
  have f1 : W0.frozen? ⟨w.heap.size, 1, none⟩ = false := by rw [hW0]; simp
  have f2 : W0.frozen? ⟨w.heap.size, 2, none⟩ = false := by rw [hW0]; simp
  have b0 : Below w.heap.size w W0 := by rw [hW0]; exact (Below.refl _ _).alloc (Nat.le_refl _) _
  rw [← hW0]
  clear hW0
  go_loopw [10] (fun i wr => ∃ (k : Nat), k ≤ n ∧ i = .int .i64 k ∧ Below W0.heap.size W0 wr ∧ Hid (look key L = look key (L.drop k))) (fun i _ => n - (RowKit.intOf i).toNat)
  case atStart => exact ⟨0, Nat.zero_le _, rfl, Below.refl _ _, rfl⟩
  case round =>
    obtain ⟨k, hk, rfl, hbw, H⟩ := hrel
    have s0 := (hbw.cell (lt_of_cell r0)).trans r0
    have s1 := (hbw.cell (lt_of_cell r1)).trans r1
    have s2 := (hbw.cell (lt_of_cell r2)).trans r2
    have g0 := (hbw.frozen (lt_of_cell r0)).trans f0
    have g1 := (hbw.frozen (lt_of_cell r1)).trans f1
    have g2 := (hbw.frozen (lt_of_cell r2)).trans f2
    have bw := b0.trans (hbw.mono b0.size)
    clear r0 r1 r2 f0 f1 f2 b0
    by_cases hlt : k < n
    · have hltI : (k : Int) < n := by omega
      obtain ⟨q, hq⟩ : ∃ q, L[k]? = some q := ⟨_, List.getElem?_eq_getElem (by rw [HN.out]; exact hlt)⟩
      obtain ⟨b, off, rfl, hp⟩ := HC.out k q hq
      obtain ⟨c0, c1, c2, c3⟩ := hp.below bw
      have hd : L.drop k = q :: L.drop (k + 1) := by
        rw [List.drop_eq_getElem_cons (by rw [HN.out]; exact hlt)]
        rw [List.getElem?_eq_getElem (by rw [HN.out]; exact hlt)] at hq
        rw [Option.some.inj hq]
      obtain ⟨qk, qx, qn, qt⟩ := q
      simp only at c0 c1 c2 c3
      by_cases he : qk = key
      · have hb := beq_key true (decide_eq_true he)
        have HR : Hid (look key L = some (qx, qn, qt)) := by
          show _ = _
          rw [H.out, hd, look, if_pos he]
        have hlt2 : w.heap.size < wr.heap.size := lt_of_cell s0
        have hne1 : ¬ w.heap.size = wr.heap.size := by omega
        have hne2 : ¬ wr.heap.size = w.heap.size := by omega
        clear he hd hq hp H
        go_wp2_with fail
        obtain ⟨W1, hW1⟩ : ∃ W1, W1 = ((wr.setCell ⟨w.heap.size, 0, none⟩ (.int .i64 qx)).setCell ⟨w.heap.size, 1, none⟩ (.int .i64 qn)).setCell ⟨w.heap.size, 2, none⟩ (.string qt) := ⟨_, rfl⟩
        have t0 : W1.cell? ⟨w.heap.size, 0, none⟩ = some (.int .i64 qx) := by rw [hW1]; simp [go_sem, s0]
        have t1 : W1.cell? ⟨w.heap.size, 1, none⟩ = some (.int .i64 qn) := by rw [hW1]; simp [go_sem, s1]
        have t2 : W1.cell? ⟨w.heap.size, 2, none⟩ = some (.string qt) := by rw [hW1]; simp [go_sem, s2]
        have bW1 : Below w.heap.size w W1 := by rw [hW1]; exact ((bw.setCell (Nat.le_refl _) _).setCell (Nat.le_refl _) _).setCell (Nat.le_refl _) _
        rw [HR.out, ← hW1]
        clear hW1 s0 s1 s2
        obtain ⟨W2, hW2⟩ : ∃ W2, W2 = W1.alloc (.cells #[.string qk, .int .i64 qx, .int .i64 qn, .string qt] 106) := ⟨_, rfl⟩
        have bR : Below W1.heap.size W1 W2 := by rw [hW2]; exact (Below.refl _ _).alloc (Nat.le_refl _) _
        have bW2 : Below w.heap.size w W2 := bW1.trans (bR.mono bW1.size)
        have u0 := (bR.cell (lt_of_cell t0)).trans t0
        have u1 := (bR.cell (lt_of_cell t1)).trans t1
        have u2 := (bR.cell (lt_of_cell t2)).trans t2
        rw [← hW2]
        clear hW2 t0 t1 t2
        exact bodyPost_ret (v := .tuple #[plV (qx, qn, qt), .bool true]) (by simp [results, Tryz.results85, go_sem, u0, u1, u2]) rfl ⟨rfl, bW2⟩
      · have hb := beq_key false (decide_eq_false he)
        have HR : Hid (look key L = look key (L.drop (k + 1))) := by
          show _ = _
          rw [H.out, hd, look, if_neg he]
        clear he hd hq hp H
        go_wp2_with fail
        go_roundw
        case rel => exact ⟨k + 1, by omega, by go_num, hbw.alloc hbw.size _, HR.out⟩
        case measure => simp [RowKit.intOf]; omega
    · have hltI : ¬ (k : Int) < n := by omega
      have HR : Hid (look key L = none) := by
        show _ = _
        rw [H.out, List.drop_of_length_le (by rw [HN.out]; omega), look]
      clear H
      go_wp2_with fail
      rw [HR.out]
      exact bodyPost_ret (v := .tuple #[plV z0, .bool false]) (by simp [results, Tryz.results85, go_sem, s0, s1, s2, z0]) rfl ⟨rfl, ((bw.setCell (Nat.le_refl _) _).setCell (Nat.le_refl _) _).setCell (Nat.le_refl _) _⟩
end Go.Proofs.YtfllomfjhkgaoaaGreatDoor

/- What vellumref03.whole, Over and Between answer. -/
namespace Go.Proofs.YtfllomfjhkgaoaaGreatDoor
open Go Go.RowKit Go.Lib
set_option linter.unusedVariables false

def wholeL (L : List A2) : List A2 := L.filter fun q => !(q.2.1 == 0)
def overL (A : List A2) (first : Bool) (B : List A2) : List A2 := B.filter fun q => !first || !(look q.1 A).isSome
def betL (A B : List A2) (J : List A2) : List A2 := J.filterMap fun x => if (look x.1 A).getD z0 = (look x.1 B).getD z0 then none else some (x.1, (look x.1 B).getD z0)
theorem filter_step {p : A2 → Bool} {L : List A2} {k : Nat} {q : A2} (hq : L[k]? = some q) : (L.take (k + 1)).filter p = (L.take k).filter p ++ (if p q then [q] else []) := by
  rw [List.take_add_one, hq, List.filter_append]
  simp only [Option.toList, List.filter_cons, List.filter_nil]
theorem filterMap_step {p : A2 → Option A2} {L : List A2} {k : Nat} {q : A2} (hq : L[k]? = some q) : (L.take (k + 1)).filterMap p = (L.take k).filterMap p ++ (p q).toList := by
  rw [List.take_add_one, hq, List.filterMap_append]
  congr 1

set_option maxHeartbeats 2000000 in
set_option maxRecDepth 100000 in
theorem whole_any (v : Value) (L : List A2) (w : World) (hv : RowA w v L) (hl : L.length ≤ 1048576) :
    Calls Tryz.prog 74 #[v] w fun r w' => ∃ v', r = .returned v' ∧ OwnA w' w.heap.size v' (wholeL L) ∧ Below w.heap.size w w' := by
  obtain ⟨n, hn⟩ : ∃ n, L.length = n := ⟨_, rfl⟩
  obtain ⟨p, cap, rfl, hcap, hc⟩ := hv
  rw [hn] at hl hcap ⊢
  have HN : Hid (L.length = n) := hn
  have HC : Hid _ := hc
  clear hc hn
  have oE := own_empty' w w.heap.size (Nat.le_refl _)
  have bE := (Below.refl w.heap.size w).alloc (Nat.le_refl _) (.cells #[] 106)
  go_enter Tryz.func74, Tryz.ntmps74
  go_wp2_with fail
  obtain ⟨v0, hv0⟩ : ∃ v0 : Value, v0 = .slice (some ⟨w.heap.size, 0, none⟩) 0 0 := ⟨_, rfl⟩
  rw [← hv0] at oE ⊢
  clear hv0
  go_loopw [3, 9] (fun out i wr => ∃ k : Nat, k ≤ n ∧ i = .int .i64 k ∧ OwnA wr w.heap.size out (wholeL (L.take k)) ∧ Below w.heap.size w wr) (fun _ i _ => n - (RowKit.intOf i).toNat)
  case atStart => exact ⟨0, Nat.zero_le _, rfl, oE, bE⟩
  case round =>
    obtain ⟨k, hk, rfl, own, bw⟩ := hrel
    by_cases hlt : k < n
    · have hltI : (k : Int) < n := by omega
      obtain ⟨q, hq⟩ : ∃ q, L[k]? = some q := ⟨_, List.getElem?_eq_getElem (by rw [HN.out]; exact hlt)⟩
      obtain ⟨b, off, rfl, hp⟩ := HC.out k q hq
      obtain ⟨c0, c1, c2, c3⟩ := hp.below bw
      obtain ⟨qk, qx, qn, qt⟩ := q
      simp only at c0 c1 c2 c3
      have hlen : Hid ((wholeL (L.take k)).length ≤ 1048676) := by show _ ≤ _; have h1 := (show (wholeL (L.take k)).length ≤ (L.take k).length from List.length_filter_le _ _); rw [List.length_take] at h1; omega
      have HO : Hid (OwnA wr w.heap.size u3 (wholeL (L.take k))) := own
      have HS := filter_step (p := fun q => !(q.2.1 == 0)) (L := L) (k := k) hq
      clear hp hq own
      by_cases hx0 : qx = 0
      · have hx : (qx != 0) = false := by simpa using hx0
        have HR : Hid (wholeL (L.take (k + 1)) = wholeL (L.take k)) := by
          show _ = _
          unfold wholeL
          rw [HS]; simp [hx0]
        clear hx0 HS
        go_wp2_with fail
        go_roundw
        case rel => exact ⟨k + 1, by omega, by go_num, by rw [HR.out]; exact owns_below HO.out ((Below.refl _ _).alloc (Nat.le_refl _) _), bw.alloc bw.size _⟩
        case measure => simp [RowKit.intOf]; omega
      · have hx : (qx != 0) = true := by simpa using hx0
        have HR : Hid (wholeL (L.take (k + 1)) = wholeL (L.take k) ++ [(qk, qx, qn, qt)]) := by
          show _ = _
          unfold wholeL
          rw [HS]; simp [hx0]
        clear hx0 HS
        have o6 := owns_below HO.out (((Below.refl wr.heap.size wr).alloc (Nat.le_refl _) (.cells #[.string qk, .int .i64 qx, .int .i64 qn, .string qt] 106)).alloc (by simp) (.cells #[.string qk, .int .i64 qx, .int .i64 qn, .string qt] 106))
        have b7 := (bw.alloc bw.size (.cells #[.string qk, .int .i64 qx, .int .i64 qn, .string qt] 106)).alloc (by have := bw.size; simp; omega) (.cells #[.string qk, .int .i64 qx, .int .i64 qn, .string qt] 106)
        have hge : ∀ j, u3.ownBlock = some j → w.heap.size ≤ j := fun j hj => (owns_block o6 j hj).1
        go_wp2_with (at_builtin; refine wpList_append_at rfl (.tmp 17) (.tmp 19) rfl w.heap.size u3 (wholeL (L.take k)) rfl o6 (wr.heap.size + 1) 1 (qk, qx, qn, qt) rfl ⟨by simp, by simp, by simp, by simp⟩ hlen.out b7.size ?_; intro v' w6 own' gr')
        have b8 := b7.grown gr' b7.size (fun j hj => hge j hj)
        go_roundw
        case rel => exact ⟨k + 1, by omega, by go_num, by rw [HR.out]; exact own', b8⟩
        case measure => simp [RowKit.intOf]; omega
    · have hltI : ¬ (k : Int) < n := by omega
      have HO : Hid (OwnA wr w.heap.size u3 (wholeL L)) := by
        show OwnA _ _ _ _
        rw [List.take_of_length_le (by rw [HN.out]; omega)] at own
        exact own
      clear own
      go_wp2
      go_ret
      exact ⟨_, rfl, HO.out, bw⟩

end Go.Proofs.YtfllomfjhkgaoaaGreatDoor

/- What vellumref03.Join answers of two patches: the one over the other. -/
namespace Go.Proofs.YtfllomfjhkgaoaaGreatDoor
open Go Go.RowKit Go.Lib
set_option linter.unusedVariables false

theorem jt_b {x y : A2} {A B : List A2} (h : kc y.1 x.1 < 0) : jn (chC true) (x :: A) (y :: B) = y :: jn (chC true) (x :: A) B := by
  have hs := kc_swap x.1 y.1
  show joinL _ (x :: A) (y :: B) = _
  rw [joinL, if_neg (by omega), if_neg (by omega)]; rfl
theorem jt_a {x y : A2} {A B : List A2} (h : kc x.1 y.1 < 0) : jn (chC true) (x :: A) (y :: B) = x :: jn (chC true) A (y :: B) := by
  show joinL _ (x :: A) (y :: B) = _
  rw [joinL, if_pos h]; rfl
theorem jt_a0 {x : A2} {A : List A2} : jn (chC true) (x :: A) [] = x :: jn (chC true) A [] := by
  show joinL _ (x :: A) [] = _
  rw [joinL]; rfl
theorem jt_eq {x y : A2} {A B : List A2} (e : y.1 = x.1) (hA : Up (x :: A)) : jn (chC true) (x :: A) (y :: B) = jn (chC true) A (y :: B) := by
  have h0 : kc x.1 y.1 = 0 := by rw [e]; exact kc_self _
  show joinL _ (x :: A) (y :: B) = _
  rw [joinL, if_neg (by omega), if_pos h0]
  cases A with
  | nil =>
    show _ = joinL _ [] (y :: B)
    rw [joinL, e]; rfl
  | cons z A =>
    have hz : kc x.1 z.1 < 0 := List.rel_of_pairwise_cons hA (List.mem_cons_self ..)
    have hzy : kc y.1 z.1 < 0 := by rw [e]; exact hz
    have hs := kc_swap z.1 y.1
    show _ = joinL _ (z :: A) (y :: B)
    rw [joinL, if_neg (by omega), if_neg (by omega), e]; rfl
theorem drop_cons {L : List A2} {k n : Nat} {q : A2} (hn : L.length = n) (hk : k < n) (hq : L[k]? = some q) : L.drop k = q :: L.drop (k + 1) := by
  rw [List.drop_eq_getElem_cons (by omega)]
  rw [List.getElem?_eq_getElem (by omega)] at hq
  rw [Option.some.inj hq]

set_option maxHeartbeats 40000000 in
set_option maxRecDepth 100000 in
theorem join_ref (va vb : Value) (A B : List A2) (w : World) (hA : RowA w va A) (hB : RowA w vb B) (zB : ∀ m c, vb = .slice none m c → m = 0 ∧ c = 0) (uA : Up A) (uB : Up B) (hl : A.length + B.length ≤ 1048576) :
    Calls Tryz.prog 75 #[va, vb] w fun r w' => ∃ v', r = .returned v' ∧ OwnA w' w.heap.size v' (jn (chC true) A B) ∧ Below w.heap.size w w' := by
  obtain ⟨n, hn⟩ : ∃ n, A.length = n := ⟨_, rfl⟩
  obtain ⟨m, hm⟩ : ∃ n, B.length = n := ⟨_, rfl⟩
  have HB0 : Hid (RowA w vb B) := hB
  obtain ⟨pa, ca, rfl, hca, hcA⟩ := hA
  obtain ⟨pb, cb, rfl, hcb, hcB⟩ := hB
  rw [hn] at hl hca ⊢
  rw [hm] at hl hcb HB0 ⊢
  have HN : Hid (A.length = n ∧ B.length = m) := ⟨hn, hm⟩
  have HA : Hid _ := hcA
  have HB : Hid _ := hcB
  have HU : Hid (Up A ∧ Up B) := ⟨uA, uB⟩
  have HZ : Hid _ := zB
  clear hcA hcB hn hm uA uB zB
  have oE := own_empty' w w.heap.size (Nat.le_refl _)
  have bE := (Below.refl w.heap.size w).alloc (Nat.le_refl _) (.cells #[] 106)
  go_enter Tryz.func75, Tryz.ntmps75
  go_wp2_with fail
  obtain ⟨v0, hv0⟩ : ∃ v0 : Value, v0 = .slice (some ⟨w.heap.size, 0, none⟩) 0 0 := ⟨_, rfl⟩
  rw [← hv0] at oE ⊢
  clear hv0
  go_loopw [5, 6, 16] (fun out i kk wr => ∃ (k j : Nat) (O : List A2), k ≤ n ∧ j ≤ m ∧ kk = .int .i64 k ∧ i = .int .i64 j ∧ OwnA wr w.heap.size out O ∧ Below w.heap.size w wr ∧ Hid (jn (chC true) A B = O ++ jn (chC true) (A.drop k) (B.drop j) ∧ O.length ≤ k + j)) (fun _ _ kk _ => n - (RowKit.intOf kk).toNat)
  case atStart => exact ⟨0, 0, [], Nat.zero_le _, Nat.zero_le _, rfl, rfl, oE, bE, by simp, by simp⟩
  case round =>
    obtain ⟨k, j, O, hk, hj, rfl, rfl, own, bw, H⟩ := hrel
    clear oE bE
    by_cases hlt : k < n
    · have hltI : (k : Int) < n := by omega
      obtain ⟨x, hx⟩ : ∃ q, A[k]? = some q := ⟨_, List.getElem?_eq_getElem (by rw [HN.out.1]; exact hlt)⟩
      obtain ⟨b, off, rfl, hp⟩ := HA.out k x hx
      obtain ⟨c0, c1, c2, c3⟩ := hp.below bw
      have HD : Hid (A.drop k = x :: A.drop (k + 1)) := drop_cons HN.out.1 hlt hx
      obtain ⟨xk, xx, xn, xt⟩ := x
      simp only at c0 c1 c2 c3
      have HO : Hid (OwnA wr w.heap.size u5 O) := own
      clear hp hx own
      go_wp2_with fail
      obtain ⟨W1, hW1⟩ : ∃ W1, W1 = wr.alloc (.cells #[.string xk, .int .i64 xx, .int .i64 xn, .string xt] 106) := ⟨_, rfl⟩
      have bW1 : Below w.heap.size w W1 := by rw [hW1]; exact bw.alloc bw.size _
      have oW1 : OwnA W1 w.heap.size u5 O := by rw [hW1]; exact owns_below HO.out ((Below.refl _ _).alloc (Nat.le_refl _) _)
      have pE : PairAt W1 wr.heap.size 0 (xk, xx, xn, xt) := by rw [hW1]; exact ⟨by simp, by simp, by simp, by simp⟩
      have offE : ∀ g, u5.ownBlock = some g → g ≠ wr.heap.size := fun g hg => by
        obtain ⟨_, cur, hc⟩ := owns_block HO.out g hg
        have := (Array.getElem?_eq_some_iff.1 hc).1
        omega
      obtain ⟨E, hE⟩ : ∃ E, wr.heap.size = E := ⟨_, rfl⟩
      rw [hE] at pE offE ⊢
      rw [← hW1]
      clear hW1 hE HO c0 c1 c2 c3 bw
      go_loopw [5, 6] (fun out i wr => ∃ (j : Nat) (O : List A2), j ≤ m ∧ i = .int .i64 j ∧ OwnA wr w.heap.size out O ∧ Below w.heap.size w wr ∧ PairAt wr E 0 (xk, xx, xn, xt) ∧ Hid (∀ g, out.ownBlock = some g → g ≠ E) ∧ Hid (jn (chC true) A B = O ++ jn (chC true) (A.drop k) (B.drop j) ∧ O.length ≤ k + j)) (fun _ i _ => m - (RowKit.intOf i).toNat)
      case atStart => exact ⟨j, O, hj, rfl, oW1, bW1, pE, offE, H⟩
      case round =>
        clear oW1 bW1 pE offE H hj
        obtain ⟨j, O, hj, rfl, own, bw, pE, offE, H⟩ := hrel
        obtain ⟨e0, e1, e2, e3⟩ := pE
        have PE : Hid (PairAt wr E 0 (xk, xx, xn, xt)) := ⟨e0, e1, e2, e3⟩
        have HO : Hid (OwnA wr w.heap.size u5 O) := own
        rw [Nat.zero_add] at e1 e2 e3
        simp only at e0 e1 e2 e3
        have hE : E < wr.heap.size := lt_of_cell e0
        clear own
        by_cases hjl : j < m
        · have hjI : (j : Int) < m := by omega
          have hj0 : (0 : Int) ≤ (j : Int) := by omega
          obtain ⟨y, hy⟩ : ∃ q, B[j]? = some q := ⟨_, List.getElem?_eq_getElem (by rw [HN.out.2]; exact hjl)⟩
          obtain ⟨b', off', rfl, hp⟩ := HB.out j y hy
          obtain ⟨d0, d1, d2, d3⟩ := hp.below bw
          have HD2 : Hid (B.drop j = y :: B.drop (j + 1)) := drop_cons HN.out.2 hjl hy
          obtain ⟨yk, yx, yn, yt⟩ := y
          simp only at d0 d1 d2 d3
          clear hp hy
          by_cases hlt2 : kc yk xk < 0
          · -- b's next is smaller: it comes
            have q1 : Op.bytesLess yk.toList xk.toList = true := by rw [less_kc]; exact decide_eq_true hlt2
            have HH : Hid (jn (chC true) A B = (O ++ [(yk, yx, yn, yt)]) ++ jn (chC true) (A.drop k) (B.drop (j + 1)) ∧ (O ++ [(yk, yx, yn, yt)]).length ≤ k + (j + 1)) := by
              refine ⟨?_, by have := H.out.2; simp; omega⟩
              rw [H.out.1, HD.out, HD2.out, jt_b hlt2]; simp
            have hLn : Hid (O.length + 1 ≤ 2097152) := by show _ ≤ _; have := H.out.2; omega
            clear H
            go_wp2_with fail
            go_quiet (fail)
            obtain ⟨wq, hwq⟩ : ∃ wq, wq = wr.drewN nq := ⟨_, rfl⟩
            have bq : Below w.heap.size w wq := by rw [hwq]; exact below_drewN bw _
            have PQ : Hid (PairAt wq E 0 (xk, xx, xn, xt)) := by rw [hwq]; exact PairAt.drewN PE.out _
            have OQ : Hid (OwnA wq w.heap.size u5 O) := by rw [hwq]; exact owns_same HO.out (fun _ _ => rfl)
            have hEq : E < wq.heap.size := by rw [hwq]; exact hE
            have f0 : wq.cell? ⟨b', off' + j * 4, none⟩ = some (.string yk) := by rw [hwq]; exact d0
            have f1 : wq.cell? ⟨b', off' + j * 4 + 1, none⟩ = some (.int .i64 yx) := by rw [hwq]; exact d1
            have f2 : wq.cell? ⟨b', off' + j * 4 + 2, none⟩ = some (.int .i64 yn) := by rw [hwq]; exact d2
            have f3 : wq.cell? ⟨b', off' + j * 4 + 3, none⟩ = some (.string yt) := by rw [hwq]; exact d3
            rw [← hwq]
            clear hwq HO PE e0 e1 e2 e3 bw hE d0 d1 d2 d3
            have o6 := owns_below OQ.out ((Below.refl wq.heap.size wq).alloc (Nat.le_refl _) (.cells #[.string yk, .int .i64 yx, .int .i64 yn, .string yt] 106))
            have b7 := bq.alloc bq.size (.cells #[.string yk, .int .i64 yx, .int .i64 yn, .string yt] 106)
            have p7 : Hid (PairAt (wq.alloc (.cells #[.string yk, .int .i64 yx, .int .i64 yn, .string yt] 106)) E 0 (xk, xx, xn, xt)) := PairAt.below PQ.out ((Below.refl _ _).alloc (Nat.le_refl _) _)
            have hge : ∀ g, u5.ownBlock = some g → w.heap.size ≤ g := fun g hg => (owns_block o6 g hg).1
            go_wp2_with (at_builtin; refine wpList_append_atx rfl (.tmp 34) (.tmp 39) rfl w.heap.size u5 O rfl o6 wq.heap.size 0 1 1 [(yk, yx, yn, yt)] rfl rfl (one_at ⟨by simp, by simp, by simp, by simp⟩) hLn.out b7.size ?_; intro v' w6 own' gr' hat')
            have b8 := b7.grown gr' b7.size (fun g hg => hge g hg)
            have p8 : PairAt w6 E 0 (xk, xx, xn, xt) := PairAt.grown p7.out gr' (fun e => offE.out E e.symm rfl)
            have off8 : Hid (∀ g, v'.ownBlock = some g → g ≠ E) := fun g hg => by
              rcases hat' with h | h
              · exact offE.out g (by rw [← h]; exact hg)
              · rw [h] at hg
                have := Option.some.inj hg
                simp at this
                omega
            refine ⟨⟨j + 1, _, by omega, by go_num, own', b8, p8, off8, HH.out⟩, ?_⟩
            simp [RowKit.intOf]; omega
          · have q1 : Op.bytesLess yk.toList xk.toList = false := by rw [less_kc]; exact decide_eq_false hlt2
            by_cases heq : yk = xk
            · have q2 := beq_key (x := yk) (y := xk) true (decide_eq_true heq)
              have HH : Hid (jn (chC true) A B = O ++ jn (chC true) (A.drop (k + 1)) (B.drop j) ∧ O.length ≤ k + 1 + j) := by
                refine ⟨?_, by have := H.out.2; omega⟩
                have hu : Up ((xk, xx, xn, xt) :: A.drop (k + 1)) := by rw [← HD.out]; exact List.Pairwise.sublist (List.drop_sublist _ _) HU.out.1
                rw [H.out.1, HD.out, HD2.out, jt_eq heq hu]
              clear H heq hlt2
              go_wp2_with fail
              go_quiet (fail)
              clear offE hE PE
              obtain ⟨wq, hw_wq⟩ : ∃ W', W' = wr.drewN nq := ⟨_, rfl⟩
              have b_wq : Below w.heap.size w wq := by rw [hw_wq]; exact below_drewN bw _
              have O_wq : Hid (OwnA wq w.heap.size u5 O) := by rw [hw_wq]; exact owns_same HO.out (fun _ _ => rfl)
              have e0_wq : wq.cell? ⟨E, 0, none⟩ = some (.string xk) := by rw [hw_wq]; exact e0
              have e1_wq : wq.cell? ⟨E, 1, none⟩ = some (.int .i64 xx) := by rw [hw_wq]; exact e1
              have e2_wq : wq.cell? ⟨E, 2, none⟩ = some (.int .i64 xn) := by rw [hw_wq]; exact e2
              have e3_wq : wq.cell? ⟨E, 3, none⟩ = some (.string xt) := by rw [hw_wq]; exact e3
              have f0_wq : wq.cell? ⟨b', off' + j * 4, none⟩ = some (.string yk) := by rw [hw_wq]; exact d0
              rw [← hw_wq]
              clear hw_wq bw HO e0 e1 e2 e3
              clear d0
              clear d1 d2 d3
              go_wp2_with fail
              go_quiet (fail)
              clear f0_wq e0_wq e1_wq e2_wq e3_wq
              go_wp2_with fail
              go_roundw
              case rel => exact ⟨k + 1, j, O, by omega, hj, by go_num, rfl, owns_same O_wq.out (fun _ _ => rfl), below_drewN b_wq _, HH.out⟩
              case measure => simp [RowKit.intOf]; omega
            · have q2 := beq_key (x := yk) (y := xk) false (decide_eq_false heq)
              have hgt : kc xk yk < 0 := by
                have hs := kc_swap yk xk
                rcases kc_range xk yk with h | h | h
                · omega
                · exact absurd (kc_zero.1 h).symm heq
                · omega
              have HH : Hid (jn (chC true) A B = (O ++ [(xk, xx, xn, xt)]) ++ jn (chC true) (A.drop (k + 1)) (B.drop j) ∧ (O ++ [(xk, xx, xn, xt)]).length ≤ k + 1 + j) := by
                refine ⟨?_, by have := H.out.2; simp; omega⟩
                rw [H.out.1, HD.out, HD2.out, jt_a hgt]; simp
              have hLn : Hid (O.length + 1 ≤ 2097152) := by show _ ≤ _; have := H.out.2; omega
              clear H heq hlt2 hgt
              go_wp2_with fail
              go_quiet (fail)
              clear offE hE PE
              obtain ⟨wq, hw_wq⟩ : ∃ W', W' = wr.drewN nq := ⟨_, rfl⟩
              have b_wq : Below w.heap.size w wq := by rw [hw_wq]; exact below_drewN bw _
              have O_wq : Hid (OwnA wq w.heap.size u5 O) := by rw [hw_wq]; exact owns_same HO.out (fun _ _ => rfl)
              have e0_wq : wq.cell? ⟨E, 0, none⟩ = some (.string xk) := by rw [hw_wq]; exact e0
              have e1_wq : wq.cell? ⟨E, 1, none⟩ = some (.int .i64 xx) := by rw [hw_wq]; exact e1
              have e2_wq : wq.cell? ⟨E, 2, none⟩ = some (.int .i64 xn) := by rw [hw_wq]; exact e2
              have e3_wq : wq.cell? ⟨E, 3, none⟩ = some (.string xt) := by rw [hw_wq]; exact e3
              have f0_wq : wq.cell? ⟨b', off' + j * 4, none⟩ = some (.string yk) := by rw [hw_wq]; exact d0
              rw [← hw_wq]
              clear hw_wq bw HO e0 e1 e2 e3
              clear d0
              clear d1 d2 d3
              go_wp2_with fail
              go_quiet (fail)
              obtain ⟨wz, hw_wz⟩ : ∃ W', W' = wq.drewN nq := ⟨_, rfl⟩
              have b_wz : Below w.heap.size w wz := by rw [hw_wz]; exact below_drewN b_wq _
              have O_wz : Hid (OwnA wz w.heap.size u5 O) := by rw [hw_wz]; exact owns_same O_wq.out (fun _ _ => rfl)
              have e0_wz : wz.cell? ⟨E, 0, none⟩ = some (.string xk) := by rw [hw_wz]; exact e0_wq
              have e1_wz : wz.cell? ⟨E, 1, none⟩ = some (.int .i64 xx) := by rw [hw_wz]; exact e1_wq
              have e2_wz : wz.cell? ⟨E, 2, none⟩ = some (.int .i64 xn) := by rw [hw_wz]; exact e2_wq
              have e3_wz : wz.cell? ⟨E, 3, none⟩ = some (.string xt) := by rw [hw_wz]; exact e3_wq
              have f0_wz : wz.cell? ⟨b', off' + j * 4, none⟩ = some (.string yk) := by rw [hw_wz]; exact f0_wq
              rw [← hw_wz]
              clear hw_wz b_wq O_wq e0_wq e1_wq e2_wq e3_wq
              clear f0_wq
              clear f0_wz
              have o6 := owns_below O_wz.out ((Below.refl wz.heap.size wz).alloc (Nat.le_refl _) (.cells #[.string xk, .int .i64 xx, .int .i64 xn, .string xt] 106))
              have b7 := b_wz.alloc b_wz.size (.cells #[.string xk, .int .i64 xx, .int .i64 xn, .string xt] 106)
              have hge : ∀ g, u5.ownBlock = some g → w.heap.size ≤ g := fun g hg => (owns_block o6 g hg).1
              go_wp2_with (at_builtin; refine wpList_append_atx rfl (.tmp 57) (.tmp 59) rfl w.heap.size u5 O rfl o6 wz.heap.size 0 1 1 [(xk, xx, xn, xt)] rfl rfl (one_at ⟨by simp, by simp, by simp, by simp⟩) hLn.out b7.size ?_; intro v' w6 own' gr' hat')
              have b8 := b7.grown gr' b7.size (fun g hg => hge g hg)
              go_roundw
              case rel => exact ⟨k + 1, j, _, by omega, hj, by go_num, rfl, own', b8, HH.out⟩
              case measure => simp [RowKit.intOf]; omega
        · have hjm : j = m := by omega
          have hjI : decide ((j : Int) < (m : Int)) = false := decide_eq_false (by omega)
          have hjI2 : ¬ (j : Int) < (m : Int) := by omega
          have HD2 : Hid (B.drop j = []) := List.drop_of_length_le (by rw [HN.out.2]; omega)
          have HH : Hid (jn (chC true) A B = (O ++ [(xk, xx, xn, xt)]) ++ jn (chC true) (A.drop (k + 1)) (B.drop j) ∧ (O ++ [(xk, xx, xn, xt)]).length ≤ k + 1 + j) := by
            refine ⟨?_, by have := H.out.2; simp; omega⟩
            rw [H.out.1, HD.out, HD2.out, jt_a0]; simp
          have hLn : Hid (O.length + 1 ≤ 2097152) := by show _ ≤ _; have := H.out.2; omega
          clear H hjm
          go_wp2_with fail
          go_quiet (fail)
          clear offE hE PE
          obtain ⟨wq, hw_wq⟩ : ∃ W', W' = wr.drewN nq := ⟨_, rfl⟩
          have b_wq : Below w.heap.size w wq := by rw [hw_wq]; exact below_drewN bw _
          have O_wq : Hid (OwnA wq w.heap.size u5 O) := by rw [hw_wq]; exact owns_same HO.out (fun _ _ => rfl)
          have e0_wq : wq.cell? ⟨E, 0, none⟩ = some (.string xk) := by rw [hw_wq]; exact e0
          have e1_wq : wq.cell? ⟨E, 1, none⟩ = some (.int .i64 xx) := by rw [hw_wq]; exact e1
          have e2_wq : wq.cell? ⟨E, 2, none⟩ = some (.int .i64 xn) := by rw [hw_wq]; exact e2
          have e3_wq : wq.cell? ⟨E, 3, none⟩ = some (.string xt) := by rw [hw_wq]; exact e3
          rw [← hw_wq]
          clear hw_wq bw HO e0 e1 e2 e3
          go_wp2_with fail
          go_quiet (fail)
          obtain ⟨wz, hw_wz⟩ : ∃ W', W' = wq.drewN nq := ⟨_, rfl⟩
          have b_wz : Below w.heap.size w wz := by rw [hw_wz]; exact below_drewN b_wq _
          have O_wz : Hid (OwnA wz w.heap.size u5 O) := by rw [hw_wz]; exact owns_same O_wq.out (fun _ _ => rfl)
          have e0_wz : wz.cell? ⟨E, 0, none⟩ = some (.string xk) := by rw [hw_wz]; exact e0_wq
          have e1_wz : wz.cell? ⟨E, 1, none⟩ = some (.int .i64 xx) := by rw [hw_wz]; exact e1_wq
          have e2_wz : wz.cell? ⟨E, 2, none⟩ = some (.int .i64 xn) := by rw [hw_wz]; exact e2_wq
          have e3_wz : wz.cell? ⟨E, 3, none⟩ = some (.string xt) := by rw [hw_wz]; exact e3_wq
          rw [← hw_wz]
          clear hw_wz b_wq O_wq e0_wq e1_wq e2_wq e3_wq
          have o6 := owns_below O_wz.out ((Below.refl wz.heap.size wz).alloc (Nat.le_refl _) (.cells #[.string xk, .int .i64 xx, .int .i64 xn, .string xt] 106))
          have b7 := b_wz.alloc b_wz.size (.cells #[.string xk, .int .i64 xx, .int .i64 xn, .string xt] 106)
          have hge : ∀ g, u5.ownBlock = some g → w.heap.size ≤ g := fun g hg => (owns_block o6 g hg).1
          go_wp2_with (at_builtin; refine wpList_append_atx rfl (.tmp 57) (.tmp 59) rfl w.heap.size u5 O rfl o6 wz.heap.size 0 1 1 [(xk, xx, xn, xt)] rfl rfl (one_at ⟨by simp, by simp, by simp, by simp⟩) hLn.out b7.size ?_; intro v' w6 own' gr' hat')
          have b8 := b7.grown gr' b7.size (fun g hg => hge g hg)
          go_roundw
          case rel => exact ⟨k + 1, j, _, by omega, hj, by go_num, rfl, own', b8, HH.out⟩
          case measure => simp [RowKit.intOf]; omega
    · have hkn : k = n := by omega
      have hltI : ¬ (k : Int) < n := by omega
      have HJ : Hid (O ++ B.drop j = jn (chC true) A B ∧ O.length + (m - j) ≤ 2097152) := by
        refine ⟨?_, by have := H.out.2; omega⟩
        have h0 : A.drop k = [] := List.drop_of_length_le (by rw [HN.out.1]; omega)
        rw [H.out.1, h0, three3 (List.Pairwise.sublist (List.drop_sublist _ _) HU.out.2)]
      clear H hkn
      have HO : Hid (OwnA wr w.heap.size u5 O) := own
      clear own
      have lM : Hid ((B.drop j).length = m - j) := by show _ = _; rw [List.length_drop, HN.out.2]
      have hj0 : (0 : Int) ≤ (j : Int) := by omega
      have hj1 : (j : Int) ≤ (m : Int) := by omega
      have hge : ∀ g, u5.ownBlock = some g → w.heap.size ≤ g := fun g hg => (owns_block HO.out g hg).1
      go_upto_region 12 with fail
      go_cut [5] from 62 (fun v' wc => OwnA wc w.heap.size v' (jn (chC true) A B) ∧ Below w.heap.size w wc)
      case first =>
        cases pb with
        | none =>
          obtain ⟨hm0, rfl⟩ := HZ.out _ _ rfl
          have hm1 : m = 0 := by rw [← HN.out.2]; exact hm0
          subst hm1
          obtain rfl : j = 0 := by omega
          have hB0 : Hid (B.drop 0 = []) := by show _ = _; exact List.eq_nil_of_length_eq_zero (by rw [lM.out])
          obtain ⟨i0, z0', hi, hz, hz1, hz2, hz3⟩ := infoAt
          go_wp2_with (at_builtin; refine wpList_append_own_none rfl (.tmp 62) (.tmp 65) 46 rfl w.heap.size 106 i0 4 Tryz.underlying46 hi u5 O.length (cellsA O) rfl HO.out rfl ?_)
          clear hi hz hz1 hz2 hz3
          go_wp2
          go_meet
          case rel => exact ⟨by show OwnA _ _ _ _; rw [← HJ.out.1, hB0.out, List.append_nil]; exact HO.out, bw⟩
        | some ad =>
          by_cases hjm : j = m
          · have hjm' : Hid (j = m) := hjm
            clear hjm
            have hB0 : Hid (B.drop j = []) := by show _ = _; exact List.eq_nil_of_length_eq_zero (by rw [lM.out]; have := hjm'.out; omega)
            have hLO : Hid (O.length ≤ 2097152) := by show _ ≤ _; have := HJ.out.2; omega
            by_cases hcj : cb = j
            · have hcj' : j = cb := hcj.symm
              subst hcj'
              go_wp2_with (at_builtin; refine wpList_append_emp rfl (.tmp 62) (.tmp 65) rfl w.heap.size u5 O rfl HO.out _ _ _ rfl (by have := hjm'.out; omega) hLO.out bw.size ?_; intro v' w6 own' gr' hat')
              go_wp2
              go_meet
              case rel => exact ⟨by show OwnA _ _ _ _; rw [← HJ.out.1, hB0.out, List.append_nil]; exact own', bw.grown gr' bw.size (fun g hg => hge g hg)⟩
            · go_wp2_with (at_builtin; refine wpList_append_emp rfl (.tmp 62) (.tmp 65) rfl w.heap.size u5 O rfl HO.out _ _ _ rfl (by have := hjm'.out; omega) hLO.out bw.size ?_; intro v' w6 own' gr' hat')
              go_wp2
              go_meet
              case rel => exact ⟨by show OwnA _ _ _ _; rw [← HJ.out.1, hB0.out, List.append_nil]; exact own', bw.grown gr' bw.size (fun g hg => hge g hg)⟩
          · obtain ⟨y0, hy0⟩ : ∃ q, B[j]? = some q := ⟨_, List.getElem?_eq_getElem (by rw [HN.out.2]; omega)⟩
            obtain ⟨b0, off0, hpb, _⟩ := HB.out j y0 hy0
            cases hpb
            clear hy0
            have hcj : ¬ cb = j := by omega
            have hM : Hid (∀ (i : Nat) (q : A2), (B.drop j)[i]? = some q → PairAt wr b0 (off0 + j * 4 + i * 4) q) := fun i q hq => by
              rw [List.getElem?_drop] at hq
              obtain ⟨b1, off1, he, h1⟩ := HB.out _ q hq
              cases he
              rw [show off0 + j * 4 + i * 4 = off0 + (j + i) * 4 by omega]
              exact h1.below bw
            have hLO : Hid (O.length + (m - j) ≤ 2097152) := HJ.out.2
            go_wp2_with (at_builtin; refine wpList_append_atx rfl (.tmp 62) (.tmp 65) rfl w.heap.size u5 O rfl HO.out b0 (off0 + j * 4) (m - j) (cb - j) (B.drop j) rfl lM.out hM.out hLO.out bw.size ?_; intro v' w6 own' gr' hat')
            go_wp2
            go_meet
            case rel => exact ⟨by show OwnA _ _ _ _; rw [← HJ.out.1]; exact own', bw.grown gr' bw.size (fun g hg => hge g hg)⟩
      case rest =>
        obtain ⟨OJ0, b8⟩ := hcut
        obtain ⟨w6, hw6⟩ : ∃ w6, w6 = wc := ⟨_, rfl⟩
        subst hw6
        obtain ⟨v', hv'⟩ : ∃ v', v' = u5 := ⟨_, rfl⟩
        subst hv'
        have OJ : Hid (OwnA w6 w.heap.size v' (jn (chC true) A B)) := OJ0
        clear OJ0 HJ HO bw hge lM hj0 hj1 hltI hlt hj hk
        have HR : Hid (RowA w6 v' (jn (chC true) A B)) := own_rowA OJ.out
        have hJl : Hid ((jn (chC true) A B).length ≤ 1048576) := by show _ ≤ _; have := jn_len (chC true) A B; rw [HN.out.1, HN.out.2] at this; omega
        go_wp2_with fail
        go_loopw [5, 69] (fun vv i wr => v' = vv ∧ ∃ k : Nat, k ≤ m ∧ i = .int .i64 k ∧ Below w6.heap.size w6 wr) (fun _ i _ => m - (RowKit.intOf i).toNat)
        case atStart => exact ⟨rfl, 0, Nat.zero_le _, rfl, Below.refl _ _⟩
        case round =>
          obtain ⟨hvv, k, hk, rfl, bk⟩ := hrel
          subst hvv
          by_cases hlt : k < m
          · have hltI : (k : Int) < m := by omega
            obtain ⟨y, hy⟩ : ∃ q, B[k]? = some q := ⟨_, List.getElem?_eq_getElem (by rw [HN.out.2]; exact hlt)⟩
            obtain ⟨b', off', hpb, hp⟩ := HB.out k y hy
            have b9 := b8.trans (bk.mono b8.size)
            obtain ⟨d0, d1, d2, d3⟩ := hp.below b9
            have hlk : look y.1 (jn (chC true) A B) = some y.2 := by
              rw [look_join _ HU.out.1 HU.out.2, mem_look HU.out.2 (List.mem_of_getElem? hy)]
              cases look y.1 A <;> rfl
            obtain ⟨yk, yx, yn, yt⟩ := y
            simp only at d0 d1 d2 d3 hlk
            cases hpb
            have cH := fun W (hW : Below w6.heap.size w6 W) => has_any v' (jn (chC true) A B) yk W (RowA.below HR.out hW) (by have := hJl.out; omega)
            rw [hlk] at cH
            simp only [Option.getD_some, Option.isSome_some] at cH
            have bk1 := bk.alloc bk.size (.cells #[.string yk, .int .i64 yx, .int .i64 yn, .string yt] 106)
            clear hlk hy hp
            go_wp2_with fail
            refine (cH _ bk1).mono ?_; rintro r w8 ⟨rfl, b10⟩
            have bk2 := bk1.trans (b10.mono bk1.size)
            go_wp2_with fail
            go_roundw
            case rel => exact ⟨rfl, k + 1, by omega, by go_num, bk2.alloc bk2.size _⟩
            case measure => simp [RowKit.intOf]; omega
          · have hltI : ¬ (k : Int) < m := by omega
            have OK : Hid (OwnA wr w.heap.size v' (jn (chC true) A B)) := owns_below OJ.out bk
            go_wp2
            go_ret
            exact ⟨_, rfl, OK.out, b8.trans (bk.mono b8.size)⟩
end Go.Proofs.YtfllomfjhkgaoaaGreatDoor

/- The document's answers of the attrs' calls as joins. -/
namespace Go.Proofs.YtfllomfjhkgaoaaGreatDoor
open Go Go.RowKit Go.Lib
set_option linter.unusedVariables false

def fm (g : A2 → Option P3) (L : List A2) : List A2 := L.filterMap fun x => (g x).map fun v => (x.1, v)
theorem fm_mem {g : A2 → Option P3} {L : List A2} {q : A2} (h : q ∈ fm g L) : ∃ x ∈ L, x.1 = q.1 ∧ g x = some q.2 := by
  obtain ⟨x, hx, e⟩ := List.mem_filterMap.1 h
  obtain ⟨v, hv, rfl⟩ := Option.map_eq_some_iff.1 e
  exact ⟨x, hx, rfl, hv⟩
theorem up_fm {g : A2 → Option P3} {L : List A2} (h : Up L) : Up (fm g L) := by
  unfold fm
  refine List.Pairwise.filterMap _ (R := fun x y : A2 => kc x.1 y.1 < 0) (S := fun x y : A2 => kc x.1 y.1 < 0) (fun a a' hr b hb b' hb' => ?_) h
  obtain ⟨v, hv, rfl⟩ := Option.map_eq_some_iff.1 hb
  obtain ⟨v', hv', rfl⟩ := Option.map_eq_some_iff.1 hb'
  exact hr
theorem look_fm {g : A2 → Option P3} (k : ByteArray) : ∀ {L : List A2}, Up L → look k (fm g L) = (look k L).bind fun v => g (k, v)
  | [], _ => rfl
  | (j, u) :: L, h => by
    have ih := look_fm (g := g) k (L := L) (List.Pairwise.of_cons h)
    have hc : fm g ((j, u) :: L) = ((g (j, u)).map fun v => (j, v)).toList ++ fm g L := by
      unfold fm
      rw [List.filterMap_cons]
      cases g (j, u) <;> rfl
    rw [hc, look]
    by_cases e : j = k
    · subst e
      rw [if_pos rfl]
      have h0 : look j L = none := look_above fun q hq => List.rel_of_pairwise_cons h hq
      rw [h0] at ih
      cases e2 : g (j, u) with
      | none => simp only [Option.map_none, Option.toList_none, List.nil_append, ih]; exact e2.symm
      | some v => show look j ((j, v) :: fm g L) = _; rw [look, if_pos rfl]; exact e2.symm
    · rw [if_neg (show ¬ (j, u).1 = k from e), ← ih]
      cases e2 : g (j, u) with
      | none => rfl
      | some v => show look k ((j, v) :: fm g L) = _; rw [look, if_neg (show ¬ (j, v).1 = k from e)]
theorem filter_fm (p : A2 → Bool) (L : List A2) : L.filter p = fm (fun q => if p q then some q.2 else none) L := by
  unfold fm
  induction L with
  | nil => rfl
  | cons q L ih =>
    rw [List.filter_cons, List.filterMap_cons, ih]
    by_cases h : p q = true <;> simp [h]
theorem whole_eq {a b : List A2} (ha : Up a) (hb : Up b) : wholeL (jn (chC true) a b) = jn (chC false) a b := by
  unfold wholeL
  rw [filter_fm]
  refine up_ext (up_fm (up_join _ ha hb)) (up_join _ ha hb) fun k => ?_
  rw [look_fm k (up_join _ ha hb), look_join _ ha hb, look_join _ ha hb]
  cases look k a <;> cases look k b <;> simp [at2, fOf, chC]
theorem over_eq {a b : List A2} (first : Bool) (ha : Up a) (hb : Up b) : overL a first b = jn (chT first) a b := by
  unfold overL
  rw [filter_fm]
  refine up_ext (up_fm hb) (up_join _ ha hb) fun k => ?_
  rw [look_fm k hb, look_join _ ha hb]
  cases first <;> cases e : look k a <;> cases look k b <;> simp [at2, fOf, chT, e]
theorem bet_eq {a b : List A2} (ha : Up a) (hb : Up b) : betL a b (jn (chC true) a b) = jn chD a b := by
  have e : ∀ J, betL a b J = fm (fun x => if (look x.1 a).getD z0 = (look x.1 b).getD z0 then none else some ((look x.1 b).getD z0)) J := fun J => by
    unfold betL fm
    congr 1
    funext x
    by_cases h : (look x.1 a).getD z0 = (look x.1 b).getD z0 <;> simp [h]
  rw [e]
  refine up_ext (up_fm (up_join _ ha hb)) (up_join _ ha hb) fun k => ?_
  rw [look_fm k (up_join _ ha hb), look_join _ ha hb, look_join _ ha hb]
  have hs : ∀ p q : P3, samP p q = decide (p = q) := fun p q => by
    by_cases h : p = q
    · rw [h, samP_self]; simp
    · rw [samP_ne h]; simp [h]
  cases ea : look k a <;> cases eb : look k b <;> simp [at2, fOf, chC, chD, hs, ea, eb]
theorem und_eq {s p : List A2} (hs : Up s) (hp : Up p) (ns : NoNull s) (pn : ∀ q ∈ p, q.2.1 = 0 → q.2 = z0) : jn chD (jn (chC false) s p) s = jn chI p s := by
  refine up_ext (up_join _ (up_join _ hs hp) hs) (up_join _ hp hs) fun k => ?_
  rw [look_join _ (up_join _ hs hp) hs, look_join _ hs hp, look_join _ hp hs]
  cases es : look k s with
  | none =>
    cases ep : look k p with
    | none => simp [at2]
    | some v =>
      by_cases h1 : v.1 = 0
      · have hv : v = z0 := pn (k, v) (look_mem ep) h1
        subst hv
        simp [at2, fOf, chC, chI, samP_self]; simp [z0]
      · simp [at2, fOf, chC, chI, chD, h1]
  | some u =>
    have hu := nn_look ns es
    cases ep : look k p with
    | none => simp [at2, fOf, chC, chI, chD, hu, samP_self]
    | some v =>
      by_cases h1 : v.1 = 0
      · have hv : v = z0 := pn (k, v) (look_mem ep) h1
        subst hv
        simp [at2, fOf, chC, chI, chD, h1]
      · simp [at2, fOf, chC, chI, chD, h1]
end Go.Proofs.YtfllomfjhkgaoaaGreatDoor

/- What vellumref03.Between answers. -/
namespace Go.Proofs.YtfllomfjhkgaoaaGreatDoor
open Go Go.RowKit Go.Lib
set_option linter.unusedVariables false

/-- Between two marks the memory stands. -/
structure Mid (c : Nat) (u w : World) : Prop where
  size : u.heap.size ≤ w.heap.size
  cell : ∀ g i, c < g → g < u.heap.size → w.cell? ⟨g, i, none⟩ = u.cell? ⟨g, i, none⟩
theorem Mid.refl (c : Nat) (u : World) : Mid c u u := ⟨Nat.le_refl _, fun _ _ _ _ => rfl⟩
theorem Mid.below {c : Nat} {u w w' : World} (h : Mid c u w) (b : Below w.heap.size w w') : Mid c u w' :=
  ⟨Nat.le_trans h.size b.size, fun g i h1 h2 => (b.cell (Nat.lt_of_lt_of_le h2 h.size)).trans (h.cell g i h1 h2)⟩
theorem Mid.alloc {c : Nat} {u w : World} (h : Mid c u w) (o : Obj) : Mid c u (w.alloc o) := h.below ((Below.refl _ _).alloc (Nat.le_refl _) o)
theorem Mid.grown {c : Nat} {u w w' : World} {row : Option Nat} (h : Mid c u w) (g : w.grownBy w' row) (hr : ∀ r, row = some r → r = c ∨ u.heap.size ≤ r) : Mid c u w' :=
  ⟨Nat.le_trans h.size g.size, fun k i h1 h2 => (World.cell?_of_block (a := ⟨k, i, none⟩) (g.block k (Nat.lt_of_lt_of_le h2 h.size) (fun e => by have := hr k e.symm; omega))).trans (h.cell k i h1 h2)⟩
theorem PairAt.mid {c : Nat} {u w : World} {b o : Nat} {q : A2} (h : PairAt u b o q) (m : Mid c u w) (hb : c < b) : PairAt w b o q :=
  ⟨(m.cell _ _ hb h.lt).trans h.c0, (m.cell _ _ hb h.lt).trans h.c1, (m.cell _ _ hb h.lt).trans h.c2, (m.cell _ _ hb h.lt).trans h.c3⟩

end Go.Proofs.YtfllomfjhkgaoaaGreatDoor

/- What vellumref03.Compose, Apply, Diff, Invert and Transform answer. -/
namespace Go.Proofs.YtfllomfjhkgaoaaGreatDoor
open Go Go.RowKit Go.Lib
set_option linter.unusedVariables false

/-- A nil slice is empty and has no room. -/
abbrev NilZ (v : Value) : Prop := ∀ m c, v = .slice none m c → m = 0 ∧ c = 0
theorem wholeL_len (L : List A2) : (wholeL L).length ≤ L.length := List.length_filter_le _ _

theorem patched_any (va vb : Value) (A B : List A2) (w : World) (hA : RowA w va A) (hB : RowA w vb B) (zB : NilZ vb) (uA : Up A) (uB : Up B) (hl : A.length + B.length ≤ 1048576) :
    Calls Tryz.prog 59 #[va, vb] w fun r w' => ∃ v', r = .returned v' ∧ OwnA w' w.heap.size v' (jn (chC false) A B) ∧ Below w.heap.size w w' := by
  have cJ := join_ref va vb A B w hA hB zB uA uB hl
  have cW := fun W (v : Value) (hv : RowA W v (jn (chC true) A B)) => whole_any v (jn (chC true) A B) W hv (by have := jn_len (chC true) A B; omega)
  rw [whole_eq uA uB] at cW
  obtain ⟨pa, ca, rfl, _⟩ := hA.val
  obtain ⟨pb, cb, rfl, _⟩ := hB.val
  clear hA hB uA uB hl zB
  go_enter Tryz.func59, Tryz.ntmps59
  go_wp2_with fail
  refine cJ.mono ?_; rintro r w2 ⟨v', rfl, own, hb2⟩
  have cW' := cW w2 v' (own_rowA own)
  clear cJ cW own
  go_wp2_with fail
  refine cW'.mono ?_; rintro r w3 ⟨v2, rfl, own, hb3⟩
  have HO : Hid _ := own
  clear own
  go_wp2
  go_ret
  exact ⟨_, rfl, own_weaken HO.out hb2.size, hb2.trans (hb3.mono hb2.size)⟩

end Go.Proofs.YtfllomfjhkgaoaaGreatDoor

/- vellumhand.Attrs and Kept. -/
namespace Go.Proofs.YtfllomfjhkgaoaaGreatDoor
open Go Go.RowKit Go.Lib
set_option linter.unusedVariables false

abbrev s2 : A2 := (⟨#[114, 111, 111, 109]⟩, 0, 0, ⟨#[]⟩)
/-- A copy with two more behind its end. -/
def HandA (w : World) (v : Value) (A : List A2) : Prop :=
  NilZ v ∧ RowA w v A ∧ (A ≠ [] → ∃ p c, v = .slice p A.length c ∧ A.length + 2 ≤ c ∧ RowA w (.slice p (A.length + 2) c) (A ++ [s1, s2]))
theorem HandA.below {w w' : World} {v : Value} {A : List A2} (h : HandA w v A) (b : Below w.heap.size w w') : HandA w' v A :=
  ⟨h.1, h.2.1.below b, fun hA => by obtain ⟨p, c, h1, h2, h3⟩ := h.2.2 hA; exact ⟨p, c, h1, h2, h3.below b⟩⟩
set_option maxHeartbeats 2000000 in
set_option maxRecDepth 100000 in
theorem hattrs_any (v : Value) (A : List A2) (w : World) (hA : RowA w v A) (hl : A.length ≤ 1048576) :
    Calls Tryz.prog 31 #[v] w fun r w' => ∃ v', r = .returned v' ∧ HandA w' v' A ∧ Below w.heap.size w w' := by
  obtain ⟨n, hn⟩ : ∃ n, A.length = n := ⟨_, rfl⟩
  obtain ⟨p, cap, rfl, hcap, hc⟩ := hA
  rw [hn] at hl hcap ⊢
  have HN : Hid (A.length = n) := hn
  have HC : Hid _ := hc
  clear hc hn
  by_cases h0 : n = 0
  · subst h0
    obtain rfl : A = [] := List.eq_nil_of_length_eq_zero HN.out
    have hz : HandA w (.slice none 0 0) [] := ⟨fun m c h => by simp only [Value.slice.injEq] at h; exact ⟨h.2.1.symm, h.2.2.symm⟩, RowA.nil _ _ _, fun h => absurd rfl h⟩
    go_enter Tryz.func31, Tryz.ntmps31
    go_wp2
    go_ret
    exact ⟨.slice none 0 0, rfl, hz, Below.refl _ _⟩
  · have h0I : ((n : Int) == 0) = false := by simp; omega
    obtain ⟨q, hq⟩ : ∃ q, A[0]? = some q := ⟨_, List.getElem?_eq_getElem (by rw [HN.out]; omega)⟩
    obtain ⟨b, off, rfl, _⟩ := HC.out 0 q hq
    have hne : A ≠ [] := fun e => by have := HN.out; rw [e] at this; exact h0 this.symm
    have HE : Hid (A ≠ []) := hne
    clear hq hne h0
    have oE := own_empty' w w.heap.size (Nat.le_refl _)
    have bE := (Below.refl w.heap.size w).alloc (Nat.le_refl _) (.cells #[] 106)
    have hM : Hid (∀ (j : Nat) (x : A2), A[j]? = some x → PairAt (w.alloc (.cells #[] 106)) b (off + j * 4) x) := fun j x hx => by
      obtain ⟨b', off', he, h⟩ := HC.out j x hx
      cases he
      exact h.below bE
    have hL0 : ([] : List A2).length + n ≤ 2097152 := by simp; omega
    go_enter Tryz.func31, Tryz.ntmps31
    go_wp2_with (first
      | (at_builtin; refine wpList_append_atx rfl (.tmp 7) (.tmp 8) rfl w.heap.size (.slice (some ⟨w.heap.size, 0, none⟩) 0 0) [] rfl oE b off n cap A rfl HN.out hM.out hL0 bE.size ?_; intro v9 w9 own9 gr9 hat9; have b10 := (bE.grown gr9 bE.size (fun j hj => by simp only [Value.ownBlock, Option.some.injEq] at hj; omega)).alloc (by have h0 := gr9.size; have h1 := bE.size; omega) (.cells #[.string ⟨#[115, 112, 97, 114, 101]⟩, .int .i64 0, .int .i64 0, .string ⟨#[]⟩, .string ⟨#[114, 111, 111, 109]⟩, .int .i64 0, .int .i64 0, .string ⟨#[]⟩] 106); have O9 : Hid (OwnA w9 w.heap.size v9 A) := own9; have O10 : Hid (OwnA (w9.alloc (.cells #[.string ⟨#[115, 112, 97, 114, 101]⟩, .int .i64 0, .int .i64 0, .string ⟨#[]⟩, .string ⟨#[114, 111, 111, 109]⟩, .int .i64 0, .int .i64 0, .string ⟨#[]⟩] 106)) w.heap.size v9 A) := owns_below O9.out ((Below.refl _ _).alloc (Nat.le_refl _) _); have hL1 : Hid (A.length + 2 ≤ 2097152) := (by show _ ≤ _; rw [HN.out]; omega); have hge : Hid (∀ j, v9.ownBlock = some j → w.heap.size ≤ j) := (fun j hj => (owns_block O10.out j hj).1); clear own9 gr9 hat9 oE bE hM O9)
      | (at_builtin; refine wpList_append_atx rfl (.tmp 9) (.tmp 12) rfl w.heap.size v9 A rfl O10.out w9.heap.size 0 2 2 [s1, s2] rfl rfl (two_at ⟨by simp, by simp, by simp, by simp⟩ ⟨by simp, by simp, by simp, by simp⟩) hL1.out b10.size ?_; intro v11 w11 own11 gr11 hat11; have b11 := b10.grown gr11 b10.size (fun j hj => hge.out j hj); obtain ⟨p11, c11, e11, hc11, hr11⟩ := own_rowA own11; rw [show (A ++ [s1, s2]).length = n + 2 by simp [HN.out]] at e11 hc11; subst e11; have HR : Hid _ := hr11; have hcI : n ≤ c11 := (by omega); clear own11 gr11 hat11 O10 b10 hge hr11))
    go_ret
    refine ⟨_, rfl, ⟨?_, ?_, ?_⟩, b11⟩
    · intro m c h
      have hp : p11 = none := by simpa using (Value.slice.inj h).1
      obtain ⟨b', off', he, _⟩ := HR.out n s1 (by rw [List.getElem?_append_right (by rw [HN.out]; omega), HN.out]; simp)
      rw [hp] at he; cases he
    · refine ⟨p11, c11, by rw [HN.out]; rfl, by rw [HN.out]; exact hcI, fun j x hx => HR.out j x ?_⟩
      rw [List.getElem?_append_left (List.getElem?_eq_some_iff.1 hx).1]; exact hx
    · intro _
      exact ⟨p11, c11, by rw [HN.out]; rfl, by rw [HN.out]; exact hc11, ⟨p11, c11, by simp [HN.out], by simp [HN.out]; omega, HR.out⟩⟩
end Go.Proofs.YtfllomfjhkgaoaaGreatDoor

/- vellumhand.OverAttrs: a list of the call's own is written over and grown: what that changes. -/
namespace Go.Proofs.YtfllomfjhkgaoaaGreatDoor
open Go Go.RowKit Go.Lib
set_option linter.unusedVariables false

theorem cell_atv {w : World} {g : Nat} {cur : Array Value} {e : TypeId} (h : w.heap[g]? = some (.cells cur e (0, 0))) (j : Nat) (hj : j < cur.size) : ∃ u, w.cell? ⟨g, j, none⟩ = some u :=
  ⟨cur[j], by simp [World.cell?, h, hj]⟩
theorem out_set4v {lo hi : Nat} {w W : World} (h : Out lo hi w W) {g : Nat} (h1 : lo ≤ g) (h2 : g < hi) (a b c d : Nat) (u0 u1 u2 u3 : Value) :
    Out lo hi w ((((W.setCell ⟨g, a, none⟩ u0).setCell ⟨g, b, none⟩ u1).setCell ⟨g, c, none⟩ u2).setCell ⟨g, d, none⟩ u3) :=
  (((h.setCell g a u0 h1 h2).setCell g b u1 h1 h2).setCell g c u2 h1 h2).setCell g d u3 h1 h2
theorem out_setCellsv {lo hi : Nat} {w : World} {g : Nat} (h1 : lo ≤ g) (h2 : g < hi) : ∀ (vs : List Value) (o : Nat) (W : World), Out lo hi w W → Out lo hi w (W.setCells g o vs)
  | [], _, _, h => h
  | v :: r, o, W, h => by
    rw [World.setCells]
    exact out_setCellsv h1 h2 r (o + 1) _ (h.setCell g o v h1 h2)
/-- A store into a block that came later. -/
theorem Out.setFar {lo hi : Nat} {w w' : World} (h : Out lo hi w w') (g j : Nat) (u : Value) (h1 : w.heap.size ≤ g) : Out lo hi w (w'.setCell ⟨g, j, none⟩ u) :=
  ⟨h.os, h.tape, h.output, by simpa using h.size, fun k hk ho => (Below.heap_setCell _ _ _ _ (by show k ≠ g; omega)).trans (h.block k hk ho), fun k cur e fz hc hk => by
    obtain ⟨c, h3, h4⟩ := h.shape k cur e fz hc hk
    have hkg : k ≠ g := by have := (Array.getElem?_eq_some_iff.1 hc).1; omega
    exact ⟨c, (Below.heap_setCell _ _ _ _ hkg).trans h3, h4⟩⟩
theorem out_setCellsFar {lo hi : Nat} {w : World} {g : Nat} (h1 : w.heap.size ≤ g) : ∀ (vs : List Value) (o : Nat) (W : World), Out lo hi w W → Out lo hi w (W.setCells g o vs)
  | [], _, _, h => h
  | v :: r, o, W, h => by
    rw [World.setCells]
    exact out_setCellsFar h1 r (o + 1) _ (h.setFar g o v h1)
theorem out_grownv {lo hi : Nat} {u w w' : World} (h : Out lo hi u w) (g : w.grownBy w' none) : Out lo hi u w' :=
  h.trans ⟨g.os, g.tape, g.output, g.size, fun k hk _ => g.block k hk (by simp), fun k cur e fz hc _ => ⟨cur, (g.block k (Array.getElem?_eq_some_iff.1 hc).1 (by simp)).trans hc, rfl⟩⟩

/-- A list that may be written, in blocks between two marks or in new ones: its shape alone. -/
def LiR (w : World) (L H B : Nat) (v : Value) (n : Nat) : Prop :=
  (v = .slice none 0 0 ∧ n = 0) ∨ ∃ (g cap : Nat) (cur : Array Value), v = .slice (some ⟨g, 0, none⟩) n cap ∧ ((L ≤ g ∧ g < H) ∨ B ≤ g) ∧ w.heap[g]? = some (.cells cur 106 (0, 0)) ∧ n ≤ cap ∧ cur.size = cap * 4
theorem LiR.val {w : World} {L H B n : Nat} {v : Value} (h : LiR w L H B v n) : ∃ p c, v = .slice p n c := by
  rcases h with ⟨h, h0⟩ | ⟨g, cap, cur, h, _⟩
  · exact ⟨none, 0, by rw [h, h0]⟩
  · exact ⟨_, _, h⟩
theorem LiR.below {w w' : World} {L H B n : Nat} {v : Value} (h : LiR w L H B v n) (b : Below w.heap.size w w') : LiR w' L H B v n := by
  rcases h with h | ⟨g, cap, cur, h1, h2, h3, h4⟩
  · exact Or.inl h
  · exact Or.inr ⟨g, cap, cur, h1, h2, (b.block g (Array.getElem?_eq_some_iff.1 h3).1).trans h3, h4⟩
/-- append(such a list, one pair). -/
theorem wpList_append_res {w u : World} {ops : Array Oper} {rest : List Oper} {o : Oper} {a : Act} {Q : Exit → Act → World → Prop} (hgd : o.guard = none) (s x : Operand)
    (ho : o.op = .call { callee := .builtin .append, args := #[s, x], argTypes := #[46, 46] })
    (L H : Nat) (v : Value) (n : Nat) (hs : a.eval s = v) (hv : LiR w L H u.heap.size v n) (hu : Out L H u w)
    (b c : Nat) (q : A2) (hx : a.eval x = .slice (some ⟨b, 0, none⟩) 1 c) (hM : PairAt w b 0 q) (h63 : n ≤ 2097152)
    (h : ∀ v' w', LiR w' L H u.heap.size v' (n + 1) → Out L H u w' → wpList Tryz.prog ops Q rest (a.put o.dst v') w') : wpList Tryz.prog ops Q (o :: rest) a w := by
  obtain ⟨i, z, hi, hz, hz1, hz2, hz3⟩ := infoAt
  have hnew : ∀ (j : Nat) (u : Value), (cellsA [q])[j]? = some u → w.cell? ((⟨b, 0, none⟩ : Addr).add j) = some u := fun j u hu => by
    obtain ⟨k, q', hq, hh⟩ := cellsA_inv [q] j u hu
    have hk : k = 0 := by rcases k with _ | k; rfl; simp at hq
    subst hk
    obtain rfl : q = q' := by simpa using hq
    obtain ⟨h0, h1, h2, h3⟩ := hM
    rw [Addr.add_lit]
    rcases hh with ⟨rfl, rfl⟩ | ⟨rfl, rfl⟩ | ⟨rfl, rfl⟩ | ⟨rfl, rfl⟩
    · exact h0
    · exact h1
    · exact h2
    · exact h3
  have fin : ∀ (v' : Value) (w' : World) (xs : List Value), w'.ownsRow w.heap.size 106 4 v' (n + 1) xs → Out L H u w' → wpList Tryz.prog ops Q rest (a.put o.dst v') w' := fun v' w' xs hw ho' => by
    refine h _ _ ?_ ho'
    rcases hw.2 with ⟨_, h0⟩ | ⟨g, cap, cur, h1, h2, h3, h4, h5, h6, _⟩
    · omega
    · exact Or.inr ⟨g, cap, cur, h1, Or.inr (Nat.le_trans hu.size h2), h3, h4, h6⟩
  rcases hv with ⟨rfl, rfl⟩ | ⟨g, cap, cur, rfl, h2, h4, h5, h6⟩
  · exact wpList_append_grows w hgd s x _ ho 106 i z 4 48 Tryz.underlying46 hi hz hz1 hz2 hz3 (by decide) none 0 0 [] hs (fun _ => ⟨rfl, rfl⟩) rfl (fun b hb => (by cases hb)) ⟨b, 0, none⟩ 1 c (cellsA [q]) hx rfl hnew (cellsA_one _) (by decide) (by unfold maxLen; omega) (by omega) (fun v' w' r1 r2 => fin v' w' _ r1 (out_grownv hu r2))
  · refine wpList_append_arg w hgd s x _ ho 106 i z 4 48 Tryz.underlying46 hi hz hz1 hz2 hz3 (by decide) g 0 n cap (cur.toList.take (n * 4)) hs (by rw [List.length_take, Array.length_toList, h6]; omega) (fun j u hu => ?_) ⟨b, 0, none⟩ 1 c (cellsA [q]) hx rfl hnew (cellsA_one _) (fun hr j hj => ?_) (by unfold maxLen; omega) (by omega) (fun hr => ?_) (fun hr v' w' r1 r2 => fin v' w' _ r1 (out_grownv hu r2))
    · have hj := (List.getElem?_eq_some_iff.1 hu).1
      rw [List.getElem?_take] at hu
      split at hu
      · rw [Nat.zero_add]
        simp only [World.cell?, h4]
        simpa using hu
      · cases hu
    · have hj' : j < 4 := by simpa [cellsA] using hj
      rw [Nat.zero_add]
      exact ⟨by obtain ⟨u, hu⟩ := cell_atv h4 (n * 4 + j) (by omega); rw [hu]; rfl, frozen_of_row w g _ cur _ h4⟩
    · obtain ⟨cur', hc', hs'⟩ := (out_setCellsv (Nat.le_refl g) (Nat.lt_succ_self g) (cellsA [q]) (0 + n * 4) w (Out.refl g (g + 1) w)).shape g cur _ _ h4 (Nat.lt_succ_self g)
      refine h _ _ (Or.inr ⟨g, cap, cur', rfl, h2, hc', hr, by rw [hs', h6]⟩) ?_
      rcases h2 with ⟨h2, h3⟩ | h2
      · exact out_setCellsv h2 h3 _ _ _ hu
      · exact out_setCellsFar h2 _ _ _ hu

abbrev qOver (i : Int) : A2 := (⟨#[111, 118, 101, 114]⟩, 2, i, ⟨#[]⟩)
abbrev qMore : A2 := (⟨#[109, 111, 114, 101]⟩, 0, 0, ⟨#[]⟩)

set_option maxHeartbeats 2000000 in
set_option maxRecDepth 100000 in
theorem overAttrs_any (v : Value) (n L H : Nat) (w : World) (hv : LiR w L H w.heap.size v n) (hl : n ≤ 1048576) :
    Calls Tryz.prog 39 #[v] w fun r w' => r = .returned (.tuple #[]) ∧ Out L H w w' := by
  obtain ⟨p, cap, rfl⟩ := hv.val
  have HV : Hid (∀ W, Out L H w W → LiR W L H w.heap.size (.slice p n cap) n) := fun W hW => by
    rcases hv with h | ⟨g, cap', cur, h1, h2, h3, h4, h5⟩
    · exact Or.inl h
    · have hg : g < w.heap.size := (Array.getElem?_eq_some_iff.1 h3).1
      obtain ⟨cur', h6, h7⟩ := hW.shape g cur _ _ h3 (by omega)
      exact Or.inr ⟨g, cap', cur', h1, h2, h6, h4, by rw [h7, h5]⟩
  have HP : Hid (0 < n → ∃ g, p = some ⟨g, 0, none⟩ ∧ L ≤ g ∧ g < H ∧ ∀ W, Out L H w W → ∀ i, i < n * 4 → (∃ u, W.cell? ⟨g, i, none⟩ = some u) ∧ W.frozen? ⟨g, i, none⟩ = false) := fun h0 => by
    rcases hv with ⟨_, h⟩ | ⟨g, cap', cur, h1, h2, h3, h4, h5⟩
    · omega
    · have hg : g < w.heap.size := (Array.getElem?_eq_some_iff.1 h3).1
      simp only [Value.slice.injEq] at h1
      obtain ⟨rfl, -, rfl⟩ := h1
      refine ⟨g, rfl, by omega, by omega, fun W hW i hi => ?_⟩
      obtain ⟨cur', h6, h7⟩ := hW.shape g cur _ _ h3 (by omega)
      exact ⟨cell_atv h6 i (by rw [h7, h5]; omega), frozen_of_row W g i cur' _ h6⟩
  clear hv
  go_enter Tryz.func39, Tryz.ntmps39
  go_wp2
  go_loopw [2, 7] (fun _ i wr => ∃ (k : Nat), k ≤ n ∧ i = .int .i64 k ∧ Out L H w wr) (fun _ i _ => n - (RowKit.intOf i).toNat)
  case atStart => exact ⟨0, Nat.zero_le _, rfl, Out.refl _ _ _⟩
  case round =>
    obtain ⟨k, hk, rfl, ho⟩ := hrel
    by_cases hlt : k < n
    · have hltI : (k : Int) < n := by omega
      obtain ⟨g, rfl, hg1, hg2, hgc⟩ := HP.out (by omega)
      obtain ⟨⟨u0, e0⟩, f0⟩ := hgc _ ho (k * 4) (by omega)
      obtain ⟨⟨u1, e1⟩, f1⟩ := hgc _ ho (k * 4 + 1) (by omega)
      obtain ⟨⟨u2', e2⟩, f2⟩ := hgc _ ho (k * 4 + 2) (by omega)
      obtain ⟨⟨u3', e3⟩, f3⟩ := hgc _ ho (k * 4 + 3) (by omega)
      have HOO : Hid (Out L H w wr ∧ L ≤ g ∧ g < H) := ⟨ho, hg1, hg2⟩
      clear hgc ho hg1 hg2
      go_wp2_with fail
      go_roundw
      case rel => exact ⟨k + 1, by omega, by go_num, out_set4v HOO.out.1 HOO.out.2.1 HOO.out.2.2 _ _ _ _ _ _ _ _⟩
      case measure => simp [RowKit.intOf]; omega
    · have hltI : ¬ (k : Int) < n := by omega
      have hli := HV.out _ ho
      have HOO : Hid (Out L H w wr) := ho
      clear HP ho
      go_wp2_with fail
      have HL : Hid (LiR wr L H w.heap.size (.slice p n cap) n) := hli
      clear hli
      go_loopw [3, 4] (fun s i wr => ∃ (k : Nat), k ≤ 20 ∧ i = .int .i64 k ∧ Hid (Out L H w wr ∧ LiR wr L H w.heap.size s (n + k))) (fun _ i _ => 20 - (RowKit.intOf i).toNat)
      case atStart => exact ⟨0, Nat.zero_le _, rfl, HOO.out, HL.out⟩
      case round =>
        clear HOO HL
        obtain ⟨k, hk, rfl, HR⟩ := hrel
        obtain ⟨p', c', rfl⟩ := HR.out.2.val
        by_cases hlt : k < 20
        · have hltJ : (k : Int) < 20 := by omega
          have bA := (Below.refl wr.heap.size wr).alloc (Nat.le_refl _) (.cells #[.string ⟨#[109, 111, 114, 101]⟩, .int .i64 0, .int .i64 0, .string ⟨#[]⟩] 106)
          have HA : Hid (Out L H w (wr.alloc (.cells #[.string ⟨#[109, 111, 114, 101]⟩, .int .i64 0, .int .i64 0, .string ⟨#[]⟩] 106)) ∧ LiR (wr.alloc (.cells #[.string ⟨#[109, 111, 114, 101]⟩, .int .i64 0, .int .i64 0, .string ⟨#[]⟩] 106)) L H w.heap.size (.slice p' (n + k) c') (n + k)) :=
            ⟨HR.out.1.trans (Out.of_below bA), HR.out.2.below bA⟩
          have hb : n + k ≤ 2097152 := by omega
          clear HR bA
          go_wp2_with (at_builtin; refine wpList_append_res (u := w) rfl (.tmp 22) (.tmp 24) rfl L H (.slice p' (n + k) c') (n + k) rfl HA.out.2 HA.out.1 wr.heap.size 1 qMore rfl ⟨by simp, by simp, by simp, by simp⟩ hb ?_; intro v' w6 hl6 ho6; have HN : Hid (Out L H w w6 ∧ LiR w6 L H w.heap.size v' (n + (k + 1))) := ⟨ho6, hl6⟩; clear hl6 ho6 HA)
          go_roundw
          case rel => exact ⟨k + 1, by omega, by go_num, HN.out⟩
          case measure => simp [RowKit.intOf]; omega
        · have hltJ : ¬ (k : Int) < 20 := by omega
          go_wp2
          (try simp only [Exit.inBlock, Exit.then])
          refine bodyPost_end (results_none rfl _ _ _) rfl ?_
          exact ⟨rfl, HR.out.1⟩
end Go.Proofs.YtfllomfjhkgaoaaGreatDoor

/- vellumhand.Attrs: where the copy lies; what writing over a list leaves of others. -/
namespace Go.Proofs.YtfllomfjhkgaoaaGreatDoor
open Go Go.RowKit Go.Lib
set_option linter.unusedVariables false

/-- A copy with two more behind its end, in a block between two marks. -/
def HandO (w : World) (lo hi : Nat) (v : Value) (A : List A2) : Prop :=
  (A = [] ∧ v = .slice none 0 0) ∨ ∃ g c, A ≠ [] ∧ v = .slice (some ⟨g, 0, none⟩) A.length c ∧ g < hi ∧ OwnA w lo (.slice (some ⟨g, 0, none⟩) (A ++ [s1, s2]).length c) (A ++ [s1, s2])
/-- A row of the call's own in a block between two marks. -/
structure InA (w : World) (lo hi : Nat) (v : Value) (A : List A2) : Prop where
  own : OwnA w lo v A
  top : ∀ k, v.ownBlock = some k → k < hi
theorem InA.new {w : World} {B : Nat} {v : Value} {A : List A2} (h : OwnA w B v A) : InA w B w.heap.size v A :=
  ⟨h, fun k hk => by obtain ⟨_, cur, hc⟩ := owns_block h k hk; exact (Array.getElem?_eq_some_iff.1 hc).1⟩
theorem InA.below {w w' : World} {lo hi : Nat} {v : Value} {A : List A2} (h : InA w lo hi v A) (b : Below w.heap.size w w') : InA w' lo hi v A := ⟨owns_below h.own b, h.top⟩
theorem InA.out {w w' : World} {lo hi a b : Nat} {v : Value} {A : List A2} (h : InA w lo hi v A) (u : Out a b w w') (d : hi ≤ a ∨ b ≤ lo) : InA w' lo hi v A :=
  ⟨owns_same h.own fun k hk => by
    obtain ⟨h1, cur, h2⟩ := owns_block h.own k hk
    have := h.top k hk
    exact u.block k (Array.getElem?_eq_some_iff.1 h2).1 (by omega), h.top⟩
theorem InA.row {w : World} {lo hi : Nat} {v : Value} {A : List A2} (h : InA w lo hi v A) : RowA w v A := own_rowA h.own
theorem LiR.of_own {w : World} {lo hi B : Nat} {v : Value} {A : List A2} (h : InA w lo hi v A) : LiR w lo hi B v A.length := by
  rcases h.own.2 with h1 | ⟨g, cap, cur, h1, h2, h3, h4, h5, h6, _⟩
  · exact Or.inl h1
  · exact Or.inr ⟨g, cap, cur, h1, Or.inl ⟨h2, h.top g (by rw [h1]; rfl)⟩, h3, h4, h6⟩
theorem HandO.below {w w' : World} {lo hi : Nat} {v : Value} {A : List A2} (h : HandO w lo hi v A) (b : Below w.heap.size w w') : HandO w' lo hi v A := by
  rcases h with h | ⟨g, c, h1, h2, h3, h4⟩
  · exact Or.inl h
  · exact Or.inr ⟨g, c, h1, h2, h3, owns_below h4 b⟩
theorem HandO.out {w w' : World} {lo hi a b : Nat} {v : Value} {A : List A2} (h : HandO w lo hi v A) (u : Out a b w w') (d : hi ≤ a ∨ b ≤ lo) : HandO w' lo hi v A := by
  rcases h with h | ⟨g, c, h1, h2, h3, h4⟩
  · exact Or.inl h
  · exact Or.inr ⟨g, c, h1, h2, h3, ((InA.mk h4 (fun k hk => by simp only [Value.ownBlock, Option.some.injEq] at hk; omega) : InA w lo hi _ _).out u d).own⟩
theorem HandO.hand {w : World} {lo hi : Nat} {v : Value} {A : List A2} (h : HandO w lo hi v A) : HandA w v A := by
  rcases h with ⟨rfl, rfl⟩ | ⟨g, c, h1, rfl, h3, h4⟩
  · exact ⟨fun m c h => by simp only [Value.slice.injEq] at h; exact ⟨h.2.1.symm, h.2.2.symm⟩, RowA.nil _ _ _, fun h => absurd rfl h⟩
  · have hr := own_rowA h4
    have hl : (A ++ [s1, s2]).length = A.length + 2 := by simp
    rw [hl] at hr
    obtain ⟨p', c', e', hc', hr'⟩ := hr
    simp only [Value.slice.injEq] at e'
    obtain ⟨rfl, hL, rfl⟩ := e'
    rw [hl] at hc'
    refine ⟨fun m c h => by simp at h, ⟨_, _, rfl, by omega, fun j x hx => hr' j x (by rw [List.getElem?_append_left (List.getElem?_eq_some_iff.1 hx).1]; exact hx)⟩, fun _ => ⟨_, _, rfl, hc', ⟨_, _, by rw [hl], by rw [hl]; exact hc', hr'⟩⟩⟩
theorem HandO.li {w : World} {lo hi B : Nat} {v : Value} {A : List A2} (h : HandO w lo hi v A) : LiR w lo hi B v A.length := by
  rcases h with ⟨rfl, rfl⟩ | ⟨g, c, h1, rfl, h3, h4⟩
  · exact Or.inl ⟨rfl, rfl⟩
  · rcases h4.2 with ⟨_, h5⟩ | ⟨g', cap, cur, h5, h6, h7, h8, h9, h10, _⟩
    · simp at h5
    · simp only [Value.slice.injEq, Option.some.injEq, Addr.mk.injEq, and_true, true_and] at h5
      obtain ⟨rfl, -, rfl⟩ := h5
      exact Or.inr ⟨g, c, cur, rfl, Or.inl ⟨h6, h3⟩, h7, by simp at h8; omega, h10⟩
set_option maxHeartbeats 2000000 in
set_option maxRecDepth 100000 in
theorem hattrs_own (v : Value) (A : List A2) (w : World) (hA : RowA w v A) (hl : A.length ≤ 1048576) :
    Calls Tryz.prog 31 #[v] w fun r w' => ∃ v', r = .returned v' ∧ HandO w' w.heap.size w'.heap.size v' A ∧ Below w.heap.size w w' := by
  obtain ⟨n, hn⟩ : ∃ n, A.length = n := ⟨_, rfl⟩
  obtain ⟨p, cap, rfl, hcap, hc⟩ := hA
  rw [hn] at hl hcap ⊢
  have HN : Hid (A.length = n) := hn
  have HC : Hid _ := hc
  clear hc hn
  by_cases h0 : n = 0
  · subst h0
    obtain rfl : A = [] := List.eq_nil_of_length_eq_zero HN.out
    go_enter Tryz.func31, Tryz.ntmps31
    go_wp2
    go_ret
    exact ⟨.slice none 0 0, rfl, Or.inl ⟨rfl, rfl⟩, Below.refl _ _⟩
  · have h0I : ((n : Int) == 0) = false := by simp; omega
    obtain ⟨q, hq⟩ : ∃ q, A[0]? = some q := ⟨_, List.getElem?_eq_getElem (by rw [HN.out]; omega)⟩
    obtain ⟨b, off, rfl, _⟩ := HC.out 0 q hq
    have hne : A ≠ [] := fun e => by have := HN.out; rw [e] at this; exact h0 this.symm
    have HE : Hid (A ≠ []) := hne
    clear hq hne h0
    have oE := own_empty' w w.heap.size (Nat.le_refl _)
    have bE := (Below.refl w.heap.size w).alloc (Nat.le_refl _) (.cells #[] 106)
    have hM : Hid (∀ (j : Nat) (x : A2), A[j]? = some x → PairAt (w.alloc (.cells #[] 106)) b (off + j * 4) x) := fun j x hx => by
      obtain ⟨b', off', he, h⟩ := HC.out j x hx
      cases he
      exact h.below bE
    have hL0 : ([] : List A2).length + n ≤ 2097152 := by simp; omega
    go_enter Tryz.func31, Tryz.ntmps31
    go_wp2_with (first
      | (at_builtin; refine wpList_append_atx rfl (.tmp 7) (.tmp 8) rfl w.heap.size (.slice (some ⟨w.heap.size, 0, none⟩) 0 0) [] rfl oE b off n cap A rfl HN.out hM.out hL0 bE.size ?_; intro v9 w9 own9 gr9 hat9; have b10 := (bE.grown gr9 bE.size (fun j hj => by simp only [Value.ownBlock, Option.some.injEq] at hj; omega)).alloc (by have h0 := gr9.size; have h1 := bE.size; omega) (.cells #[.string ⟨#[115, 112, 97, 114, 101]⟩, .int .i64 0, .int .i64 0, .string ⟨#[]⟩, .string ⟨#[114, 111, 111, 109]⟩, .int .i64 0, .int .i64 0, .string ⟨#[]⟩] 106); have O9 : Hid (OwnA w9 w.heap.size v9 A) := own9; have O10 : Hid (OwnA (w9.alloc (.cells #[.string ⟨#[115, 112, 97, 114, 101]⟩, .int .i64 0, .int .i64 0, .string ⟨#[]⟩, .string ⟨#[114, 111, 111, 109]⟩, .int .i64 0, .int .i64 0, .string ⟨#[]⟩] 106)) w.heap.size v9 A) := owns_below O9.out ((Below.refl _ _).alloc (Nat.le_refl _) _); have hL1 : Hid (A.length + 2 ≤ 2097152) := (by show _ ≤ _; rw [HN.out]; omega); have hge : Hid (∀ j, v9.ownBlock = some j → w.heap.size ≤ j) := (fun j hj => (owns_block O10.out j hj).1); clear own9 gr9 hat9 oE bE hM O9)
      | (at_builtin; refine wpList_append_atx rfl (.tmp 9) (.tmp 12) rfl w.heap.size v9 A rfl O10.out w9.heap.size 0 2 2 [s1, s2] rfl rfl (two_at ⟨by simp, by simp, by simp, by simp⟩ ⟨by simp, by simp, by simp, by simp⟩) hL1.out b10.size ?_; intro v11 w11 own11 gr11 hat11; have b11 := b10.grown gr11 b10.size (fun j hj => hge.out j hj); obtain ⟨p11, c11, e11, hc11, hr11⟩ := own_rowA own11; rw [show (A ++ [s1, s2]).length = n + 2 by simp [HN.out]] at e11 hc11; subst e11; have HR : Hid (OwnA w11 w.heap.size (.slice p11 (n + 2) c11) (A ++ [s1, s2])) := own11; have hcI : n ≤ c11 := (by omega); clear own11 gr11 hat11 O10 b10 hge hr11))
    go_ret
    have ho := HR.out
    rcases HR.out.2 with ⟨h1, _⟩ | ⟨g, cap, cur, h1, h2, h3, h4, h5, h6, h7⟩
    · simp at h1
    · simp only [Value.slice.injEq] at h1
      obtain ⟨rfl, -, rfl⟩ := h1
      exact ⟨_, rfl, Or.inr ⟨g, c11, HE.out, by rw [HN.out]; rfl, (Array.getElem?_eq_some_iff.1 h3).1, by rw [show (A ++ [s1, s2]).length = n + 2 by simp [HN.out]]; exact ho⟩, b11⟩
end Go.Proofs.YtfllomfjhkgaoaaGreatDoor

/- vellumhand.Ops: operations as new memory, with spare room. -/
namespace Go.Proofs.YtfllomfjhkgaoaaGreatDoor
open Go Go.RowKit Go.Lib
set_option linter.unusedVariables false

abbrev d78 : OV := (78, ⟨#[]⟩, z0, 0, (none, 0, 0))
theorem HandO.val {w : World} {lo hi : Nat} {v : Value} {A : List A2} (h : HandO w lo hi v A) : ∃ p l c, v = .slice p l c := by
  rcases h with ⟨_, h⟩ | ⟨g, c, _, h, _⟩
  · exact ⟨_, _, _, h⟩
  · exact ⟨_, _, _, h⟩
theorem HandO.keep {w w' : World} {lo hi hi' : Nat} {v : Value} {A : List A2} (h : HandO w lo hi v A) (b : KeepA w w') (hh : hi ≤ hi') : HandO w' lo hi' v A := by
  rcases h with h | ⟨g, c, h1, h2, h3, h4⟩
  · exact Or.inl h
  · exact Or.inr ⟨g, c, h1, h2, by omega, keepA_own h4 b⟩
theorem HandO.upto {w w' : World} {lo hi hi' : Nat} {v : Value} {A : List A2} (h : HandO w lo hi v A) (b : Below hi w w') (hh : hi ≤ hi') : HandO w' lo hi' v A := by
  rcases h with h | ⟨g, c, h1, h2, h3, h4⟩
  · exact Or.inl h
  · exact Or.inr ⟨g, c, h1, h2, by omega, owns_same h4 fun k hk => b.block k (by simp only [Value.ownBlock, Option.some.injEq] at hk; omega)⟩
theorem HandO.setBelow {w : World} {lo hi : Nat} {v : Value} {A : List A2} (h : HandO w lo hi v A) {g : Nat} (hg : g < lo) (j : Nat) (u : Value) : HandO (w.setCell ⟨g, j, none⟩ u) lo hi v A := by
  rcases h with h | ⟨g', c, h1, h2, h3, h4⟩
  · exact Or.inl h
  · exact Or.inr ⟨g', c, h1, h2, h3, ownsRow_setCell_below h4 (a := ⟨g, j, none⟩) hg u⟩
theorem HandO.lower {w : World} {lo lo' hi : Nat} {v : Value} {A : List A2} (h : HandO w lo hi v A) (hh : lo' ≤ lo) : HandO w lo' hi v A := by
  rcases h with h | ⟨g', c, h1, h2, h3, h4⟩
  · exact Or.inl h
  · exact Or.inr ⟨g', c, h1, h2, h3, own_weaken h4 hh⟩
theorem HandO.RN {w : World} {lo hi : Nat} {v : Value} {A : List A2} (h : HandO w lo hi v A) : RN w v A := ⟨h.hand.2.1, h.hand.1⟩
/-- What an operation in memory is, its list with spare room. -/
def HandD (w : World) (lo hi : Nat) (D : List OV) (E : List Op5) : Prop := All2 (fun (d : OV) (e : Op5) => d.1 = e.k ∧ d.2.1 = e.t ∧ d.2.2.1 = e.v ∧ d.2.2.2.1 = e.c ∧ HandO w lo hi (slV d.2.2.2.2) e.A) D E
theorem HandD.upto {w w' : World} {lo hi hi' : Nat} {D : List OV} {E : List Op5} (h : HandD w lo hi D E) (b : Below hi w w') (hh : hi ≤ hi') : HandD w' lo hi' D E := All2.imp (fun d e h => ⟨h.1, h.2.1, h.2.2.1, h.2.2.2.1, h.2.2.2.2.upto b hh⟩) h
theorem HandD.keep {w w' : World} {lo hi hi' : Nat} {D : List OV} {E : List Op5} (h : HandD w lo hi D E) (b : KeepA w w') (hh : hi ≤ hi') : HandD w' lo hi' D E := All2.imp (fun d e h => ⟨h.1, h.2.1, h.2.2.1, h.2.2.2.1, h.2.2.2.2.keep b hh⟩) h
theorem HandD.below {w w' : World} {lo hi hi' : Nat} {D : List OV} {E : List Op5} (h : HandD w lo hi D E) (b : Below w.heap.size w w') (hh : hi ≤ hi') : HandD w' lo hi' D E := h.keep (keepA_below b) hh
theorem HandD.re {w : World} {lo hi : Nat} {D : List OV} {E : List Op5} (h : HandD w lo hi D E) : ReD w D E := All2.imp (fun d e h => ⟨h.1, h.2.1, h.2.2.1, h.2.2.2.1, h.2.2.2.2.RN⟩) h
theorem handD_snoc {w : World} {lo hi : Nat} {D : List OV} {E : List Op5} {d : OV} {e : Op5} (h : HandD w lo hi D E) (h1 : d.1 = e.k ∧ d.2.1 = e.t ∧ d.2.2.1 = e.v ∧ d.2.2.2.1 = e.c ∧ HandO w lo hi (slV d.2.2.2.2) e.A) : HandD w lo hi (D ++ [d]) (E ++ [e]) :=
  forall2_append h (.cons h1 .nil)
/-- Operations with spare room behind them, the call's own. -/
def HandL (w : World) (lo hi : Nat) (v : Value) (E : List Op5) : Prop :=
  ∃ g c D, v = .slice (some ⟨g, 0, none⟩) E.length c ∧ lo ≤ g ∧ g < hi ∧ D.length = E.length ∧ OwnO w lo (.slice (some ⟨g, 0, none⟩) (D ++ [d77, d78]).length c) (D ++ [d77, d78]) ∧ HandD w lo hi D E
theorem HandL.below {w w' : World} {lo hi : Nat} {v : Value} {E : List Op5} (h : HandL w lo hi v E) (b : Below w.heap.size w w') : HandL w' lo hi v E := by
  obtain ⟨g, c, D, h1, h2, h3, h4, h5, h6⟩ := h
  exact ⟨g, c, D, h1, h2, h3, h4, owns_below h5 b, h6.below b (Nat.le_refl _)⟩
theorem HandL.re {w : World} {lo hi : Nat} {v : Value} {E : List Op5} (h : HandL w lo hi v E) : ReO w v E := by
  obtain ⟨g, c, D, rfl, h2, h3, h4, h5, h6⟩ := h
  refine ⟨D, ?_, h6.re⟩
  obtain ⟨p, c', he, hc, hn, hr⟩ := own_rowO h5
  simp only [Value.slice.injEq] at he
  obtain ⟨rfl, -, rfl⟩ := he
  refine ⟨_, _, by rw [h4], by simp at hc; omega, hn, fun j x hx => hr j x ?_⟩
  rw [List.getElem?_append_left (List.getElem?_eq_some_iff.1 hx).1]; exact hx
/-- append(own, two operations). -/
theorem wpList_append_op2 {w : World} {ops : Array Oper} {rest : List Oper} {o : Oper} {a : Act} {Q : Exit → Act → World → Prop} (hgd : o.guard = none) (s x : Operand)
    (ho : o.op = .call { callee := .builtin .append, args := #[s, x], argTypes := #[22, 22] })
    (base : Nat) (v : Value) (L : List OV) (hs : a.eval s = v) (hown : OwnO w base v L)
    (b c : Nat) (d e : OV) (hx : a.eval x = .slice (some ⟨b, 0, none⟩) 2 c) (hM : OpAt w b 0 d) (hM2 : OpAt w b 7 e)
    (h63 : L.length ≤ 33554432) (hbase : base ≤ w.heap.size)
    (h : ∀ v' w', OwnO w' base v' (L ++ [d, e]) → w.grownBy w' v.ownBlock → (v'.ownBlock = v.ownBlock ∨ v'.ownBlock = some w.heap.size) → wpList Tryz.prog ops Q rest (a.put o.dst v') w') : wpList Tryz.prog ops Q (o :: rest) a w := by
  obtain ⟨i, z, hi, hz, hz1, hz2, hz3⟩ := infoOp
  refine wpList_append_own_at _ hgd s x _ ho base 48 i z 7 88 Tryz.underlying22 hi hz hz1 hz2 hz3 (by decide) v L.length (cellsO L) hs hown ⟨b, 0, none⟩ 2 c (cellsO [d, e]) hx (by rw [cellsO_len]; rfl) (fun j y hj => ?_) (cellsO_one _) (by unfold maxLen; omega) (by omega) hbase (fun v' w' h1 h2 _ h3 => ?_)
  · rw [Addr.add_lit, Nat.zero_add]
    obtain ⟨h0, h1, h2, h3, h4, h5, h6⟩ := hM
    obtain ⟨k0, k1, k2, k3, k4, k5, k6⟩ := hM2
    simp only [Nat.zero_add] at h0 h1 h2 h3 h4 h5 h6
    match j, hj with
    | 0, hj => simp [cellsO] at hj; rw [← hj]; exact h0
    | 1, hj => simp [cellsO] at hj; rw [← hj]; exact h1
    | 2, hj => simp [cellsO] at hj; rw [← hj]; exact h2
    | 3, hj => simp [cellsO] at hj; rw [← hj]; exact h3
    | 4, hj => simp [cellsO] at hj; rw [← hj]; exact h4
    | 5, hj => simp [cellsO] at hj; rw [← hj]; exact h5
    | 6, hj => simp [cellsO] at hj; rw [← hj]; exact h6
    | 7, hj => simp [cellsO] at hj; rw [← hj]; exact k0
    | 8, hj => simp [cellsO] at hj; rw [← hj]; exact k1
    | 9, hj => simp [cellsO] at hj; rw [← hj]; exact k2
    | 10, hj => simp [cellsO] at hj; rw [← hj]; exact k3
    | 11, hj => simp [cellsO] at hj; rw [← hj]; exact k4
    | 12, hj => simp [cellsO] at hj; rw [← hj]; exact k5
    | 13, hj => simp [cellsO] at hj; rw [← hj]; exact k6
    | j + 14, hj => simp [cellsO] at hj
  · refine h v' w' ?_ h2 ?_
    · show w'.ownsRow _ _ _ _ _ _
      rw [cellsO_append, List.length_append]
      exact h1
    · exact h3
set_option maxHeartbeats 2000000 in
set_option maxRecDepth 100000 in
theorem handOps_any (v : Value) (E : List Op5) (w : World) (hv : ReO w v E) (hl : E.length ≤ 1048576) (hA : ∀ e ∈ E, e.A.length ≤ 1048576) :
    Calls Tryz.prog 8 #[v] w fun r w' => ∃ v', r = .returned v' ∧ HandL w' w.heap.size w'.heap.size v' E ∧ Below w.heap.size w w' := by
  obtain ⟨D0, hrow, hre⟩ := hv
  have hDE := forall2_len hre
  obtain ⟨n, hn⟩ : ∃ n, D0.length = n := ⟨_, rfl⟩
  obtain ⟨p, cap, rfl, hcap, hnz, hc⟩ := hrow
  have HC : Hid (∀ (j : Nat) (d : OV), D0[j]? = some d → ∃ b off, p = some ⟨b, off, none⟩ ∧ OpAt w b (off + j * 7) d) := hc
  have HN : Hid (D0.length = n ∧ E.length = n) := ⟨hn, by rw [← hDE, hn]⟩
  have HE : Hid (ReD w D0 E ∧ ∀ e ∈ E, e.A.length ≤ 1048576) := ⟨hre, hA⟩
  have hl : n ≤ 1048576 := by rw [← hn, hDE]; exact hl
  rw [hn] at hcap ⊢
  clear hc hn hDE hre hA hnz
  have HS : Hid (∀ W, Below w.heap.size w W → ∀ (s : Sl) (A : List A2), RN w (slV s) A → A.length ≤ 1048576 → Calls Tryz.prog 31 #[slV s] W fun r w' => ∃ s' : Sl, r = .returned (slV s') ∧ HandO w' W.heap.size w'.heap.size (slV s') A ∧ Below W.heap.size W w') := fun W hW s A h1 h2 => (hattrs_own _ A W (h1.below hW).row h2).mono fun r w' ⟨v', h3, h4, h5⟩ => by
    obtain ⟨p, l, c, rfl⟩ := h4.val
    exact ⟨(p, l, c), h3, h4, h5⟩
  have o0 := own_emptyO w w.heap.size (Nat.le_refl _)
  have b0 := (Below.refl w.heap.size w).alloc (Nat.le_refl _) (.cells #[] 48)
  obtain ⟨W0, hW0⟩ : ∃ W, W = w.alloc (.cells #[] 48) := ⟨_, rfl⟩
  obtain ⟨v0, hv0⟩ : ∃ v0 : Value, v0 = .slice (some ⟨w.heap.size, 0, none⟩) 0 0 := ⟨_, rfl⟩
  rw [← hW0, ← hv0] at o0
  rw [← hW0] at b0
  go_enter Tryz.func8, Tryz.ntmps8
  go_wp2
  rw [← hW0, ← hv0]
  clear hW0 hv0
  go_loopw [3, 9] (fun o i wr => ∃ (k : Nat) (D : List OV), k ≤ n ∧ i = .int .i64 k ∧ D.length = k ∧ OwnO wr w.heap.size o D ∧ HandD wr w.heap.size wr.heap.size D (E.take k) ∧ Below w.heap.size w wr) (fun _ i _ => n - (RowKit.intOf i).toNat)
  case atStart => exact ⟨0, [], Nat.zero_le _, rfl, rfl, o0, .nil, b0⟩
  case round =>
    clear o0 b0
    obtain ⟨k, D, hk, rfl, hDl, hown, hsp, hbw⟩ := hrel
    by_cases hlt : k < n
    · have hltI : (k : Int) < n := by omega
      obtain ⟨d, hd⟩ : ∃ d, D0[k]? = some d := ⟨_, List.getElem?_eq_getElem (by rw [HN.out.1]; exact hlt)⟩
      obtain ⟨e, he, hr⟩ := forall2_get HE.out.1 k d hd
      obtain ⟨b, off, rfl, hp⟩ := HC.out k d hd
      obtain ⟨c0, c1, c2, c3, c4, c5, c6⟩ := hp.below hbw
      have cS := HS.out _ (hbw.alloc hbw.size (.cells (ovC d) 48)) d.2.2.2.2 e.A hr.2.2.2.2 (HE.out.2 e (List.mem_of_getElem? he))
      have HT : Hid (E.take (k + 1) = E.take k ++ [e]) := by show _ = _; rw [List.take_add_one, he]; rfl
      have HR : Hid (d.1 = e.k ∧ d.2.1 = e.t ∧ d.2.2.1 = e.v ∧ d.2.2.2.1 = e.c) := ⟨hr.1, hr.2.1, hr.2.2.1, hr.2.2.2.1⟩
      have HO : Hid (OwnO wr w.heap.size u3 D ∧ HandD wr w.heap.size wr.heap.size D (E.take k)) := ⟨hown, hsp⟩
      clear hd he hr hp hown hsp
      obtain ⟨dk, dt, ⟨dx, dn, du⟩, dc, ds⟩ := d
      obtain ⟨dp, dl, dcap⟩ := ds
      simp only [slV, ovC] at c0 c1 c2 c3 c4 c5 c6 cS
      go_wp2_with fail
      refine cS.mono ?_; rintro r w5 ⟨⟨sp, sl, sc⟩, rfl, sp5, hb5⟩
      obtain ⟨W4, hW4⟩ : ∃ W, W = wr.alloc (.cells #[.int .i64 dk, .string dt, .int .i64 dx, .int .i64 dn, .string du, .int .i64 dc, .slice dp dl dcap] 48) := ⟨_, rfl⟩
      rw [← hW4] at sp5 hb5
      have D4 : OpAt W4 wr.heap.size 0 (dk, dt, (dx, dn, du), dc, dp, dl, dcap) := by rw [hW4]; exact ⟨by simp, by simp, by simp, by simp, by simp, by simp, by simp⟩
      have b4 : Below wr.heap.size wr W4 := by rw [hW4]; exact (Below.refl _ _).alloc (Nat.le_refl _) _
      have s4 : W4.heap.size = wr.heap.size + 1 := by rw [hW4]; simp
      have f4 : W4.frozen? ⟨wr.heap.size, 6, none⟩ = false := by rw [hW4]; simp
      clear hW4 cS
      have f5 := (hb5.frozen (p := ⟨wr.heap.size, 6, none⟩) D4.lt).trans f4
      have D5 := D4.below hb5
      obtain ⟨q0, q1, q2, q3, q4, q5, q6⟩ := D4.below hb5
      simp only [Nat.zero_add, slV] at q0 q1 q2 q3 q4 q5 q6
      have b5 := b4.trans (hb5.mono b4.size)
      have hs5 := hb5.size
      clear D4 f4 c0 c1 c2 c3 c4 c5 c6
      go_upto_region 6 with fail
      obtain ⟨W6, hW6⟩ : ∃ W, W = w5.setCell ⟨wr.heap.size, 6, none⟩ (.slice sp sl sc) := ⟨_, rfl⟩
      have hq : ∀ i, i ≠ 6 → W6.cell? ⟨wr.heap.size, i, none⟩ = w5.cell? ⟨wr.heap.size, i, none⟩ := fun i hi => by
        rw [hW6]; exact World.cell?_setCell_other _ _ _ _ (fun e => by cases e; omega)
      have r0 := (hq 0 (by decide)).trans q0
      have r1 := (hq 1 (by decide)).trans q1
      have r2 := (hq 2 (by decide)).trans q2
      have r3 := (hq 3 (by decide)).trans q3
      have r4 := (hq 4 (by decide)).trans q4
      have r5 := (hq 5 (by decide)).trans q5
      have r6 : W6.cell? ⟨wr.heap.size, 6, none⟩ = some (.slice sp sl sc) := by rw [hW6]; exact World.cell?_setCell_same' _ _ _ (by rw [q6]; rfl)
      have b6 : Below wr.heap.size wr W6 := by rw [hW6]; exact b5.setCell (Nat.le_refl _) _
      have sp6 : HandO W6 w.heap.size W6.heap.size (.slice sp sl sc) e.A := by
        have h1 := (sp5.setBelow (g := wr.heap.size) (by omega) 6 (.slice sp sl sc)).lower (lo' := w.heap.size) (by have := hbw.size; omega)
        rw [← hW6] at h1
        exact h1.upto (Below.refl _ _) (by rw [hW6]; simp)
      rw [← hW6]
      clear hW6 hq q0 q1 q2 q3 q4 q5 q6 D5 f5 b5 sp5 hb5 b4
      have ba : Below W6.heap.size W6 (W6.alloc (.cells #[.int .i64 dk, .string dt, .int .i64 dx, .int .i64 dn, .string du, .int .i64 dc, .slice sp sl sc] 48)) := (Below.refl _ _).alloc (Nat.le_refl _) _
      have b7 := b6.trans (ba.mono b6.size)
      have HO7 : Hid (OwnO (W6.alloc (.cells #[.int .i64 dk, .string dt, .int .i64 dx, .int .i64 dn, .string du, .int .i64 dc, .slice sp sl sc] 48)) w.heap.size u3 D ∧ OpAt (W6.alloc (.cells #[.int .i64 dk, .string dt, .int .i64 dx, .int .i64 dn, .string du, .int .i64 dc, .slice sp sl sc] 48)) W6.heap.size 0 (dk, dt, (dx, dn, du), dc, sp, sl, sc)) := ⟨owns_below HO.out.1 b7, ⟨by simp, by simp, by simp, by simp, by simp, by simp, by simp⟩⟩
      have HP7 : Hid (HandD (W6.alloc (.cells #[.int .i64 dk, .string dt, .int .i64 dx, .int .i64 dn, .string du, .int .i64 dc, .slice sp sl sc] 48)) w.heap.size (W6.alloc (.cells #[.int .i64 dk, .string dt, .int .i64 dx, .int .i64 dn, .string du, .int .i64 dc, .slice sp sl sc] 48)).heap.size (D ++ [(dk, dt, (dx, dn, du), dc, sp, sl, sc)]) (E.take (k + 1))) := by
        show HandD _ _ _ _ _
        rw [HT.out]
        refine handD_snoc (HO.out.2.upto b7 b7.size) ⟨HR.out.1, HR.out.2.1, HR.out.2.2.1, HR.out.2.2.2, sp6.keep (keepA_below ba) ba.size⟩
      have hge : Hid (∀ j, u3.ownBlock = some j → w.heap.size ≤ j) := fun j hj => (owns_block HO.out.1 j hj).1
      have bw7 := hbw.trans (b7.mono hbw.size)
      have hlen : D.length ≤ 33554432 := by omega
      clear sp6 ba b7 b6 HO HT HR
      go_wp2_with (at_builtin; refine wpList_append_ops rfl (.tmp 17) (.tmp 19) rfl w.heap.size u3 D rfl HO7.out.1 W6.heap.size 1 _ rfl HO7.out.2 hlen bw7.size ?_; intro v8 w8 own8 gr8 hat8)
      have hsp8 := HP7.out.keep (keepA_grownO HO7.out.1 gr8) gr8.size
      have b8 := bw7.grown gr8 bw7.size (fun j hj => hge.out j hj)
      go_roundw
      case rel => exact ⟨k + 1, _, by omega, by go_num, by simp [hDl], own8, hsp8, b8⟩
      case measure => simp [RowKit.intOf]; omega
    · have hltI : ¬ (k : Int) < n := by omega
      have hkn : k = n := by omega
      have hE : E.take k = E := List.take_of_length_le (by rw [HN.out.2]; omega)
      rw [hE] at hsp
      have ba : Below wr.heap.size wr (wr.alloc (.cells #[.int .i64 77, .string ⟨#[]⟩, .int .i64 0, .int .i64 0, .string ⟨#[]⟩, .int .i64 0, .slice none 0 0, .int .i64 78, .string ⟨#[]⟩, .int .i64 0, .int .i64 0, .string ⟨#[]⟩, .int .i64 0, .slice none 0 0] 48)) := (Below.refl _ _).alloc (Nat.le_refl _) _
      have HO7 : Hid (OwnO (wr.alloc (.cells #[.int .i64 77, .string ⟨#[]⟩, .int .i64 0, .int .i64 0, .string ⟨#[]⟩, .int .i64 0, .slice none 0 0, .int .i64 78, .string ⟨#[]⟩, .int .i64 0, .int .i64 0, .string ⟨#[]⟩, .int .i64 0, .slice none 0 0] 48)) w.heap.size u3 D ∧ OpAt (wr.alloc (.cells #[.int .i64 77, .string ⟨#[]⟩, .int .i64 0, .int .i64 0, .string ⟨#[]⟩, .int .i64 0, .slice none 0 0, .int .i64 78, .string ⟨#[]⟩, .int .i64 0, .int .i64 0, .string ⟨#[]⟩, .int .i64 0, .slice none 0 0] 48)) wr.heap.size 0 d77 ∧ OpAt (wr.alloc (.cells #[.int .i64 77, .string ⟨#[]⟩, .int .i64 0, .int .i64 0, .string ⟨#[]⟩, .int .i64 0, .slice none 0 0, .int .i64 78, .string ⟨#[]⟩, .int .i64 0, .int .i64 0, .string ⟨#[]⟩, .int .i64 0, .slice none 0 0] 48)) wr.heap.size 7 d78) := ⟨owns_below hown ba, ⟨by simp, by simp, by first | (simp; done) | simp [z0], by first | (simp; done) | simp [z0], by first | (simp; done) | simp [z0], by simp, by simp⟩, ⟨by simp, by simp, by first | (simp; done) | simp [z0], by first | (simp; done) | simp [z0], by first | (simp; done) | simp [z0], by simp, by simp⟩⟩
      have HP7 : Hid (HandD (wr.alloc (.cells #[.int .i64 77, .string ⟨#[]⟩, .int .i64 0, .int .i64 0, .string ⟨#[]⟩, .int .i64 0, .slice none 0 0, .int .i64 78, .string ⟨#[]⟩, .int .i64 0, .int .i64 0, .string ⟨#[]⟩, .int .i64 0, .slice none 0 0] 48)) w.heap.size (wr.alloc (.cells #[.int .i64 77, .string ⟨#[]⟩, .int .i64 0, .int .i64 0, .string ⟨#[]⟩, .int .i64 0, .slice none 0 0, .int .i64 78, .string ⟨#[]⟩, .int .i64 0, .int .i64 0, .string ⟨#[]⟩, .int .i64 0, .slice none 0 0] 48)).heap.size D E) := hsp.below ba ba.size
      have hge : Hid (∀ j, u3.ownBlock = some j → w.heap.size ≤ j) := fun j hj => (owns_block hown j hj).1
      have bw7 := hbw.trans (ba.mono hbw.size)
      have hlen : D.length ≤ 33554432 := by omega
      have HL : Hid (D.length = n) := by show _ = _; omega
      clear hown hsp ba hbw hDl
      go_wp2_with (at_builtin; refine wpList_append_op2 rfl (.tmp 22) (.tmp 25) rfl w.heap.size u3 D rfl HO7.out.1 wr.heap.size 2 d77 d78 rfl HO7.out.2.1 HO7.out.2.2 hlen bw7.size ?_; intro v8 w8 own8 gr8 hat8; have hsp8 : Hid (HandD w8 w.heap.size w8.heap.size D E) := HP7.out.keep (keepA_grownO HO7.out.1 gr8) gr8.size; have b8 := bw7.grown gr8 bw7.size (fun j hj => hge.out j hj); obtain ⟨p8, c8, e8, hc8, _, _⟩ := own_rowO own8; rw [show (D ++ [d77, d78]).length = n + 2 by simp [HL.out]] at e8 hc8; subst e8; have HO8 : Hid (OwnO w8 w.heap.size (.slice p8 (n + 2) c8) (D ++ [d77, d78])) := own8; have hcI : n ≤ c8 := (by omega); clear own8 gr8 hat8 HO7 HP7 bw7)
      go_ret
      have hO := HO8.out
      rcases hO.2 with ⟨h1, h2⟩ | ⟨g, cap', cur, h1, h2, h3, h4, h5, h6, h7⟩
      · simp at h2
      · simp only [Value.slice.injEq] at h1
        obtain ⟨rfl, -, rfl⟩ := h1
        refine ⟨_, rfl, ⟨g, c8, D, by rw [HN.out.2]; rfl, h2, (Array.getElem?_eq_some_iff.1 h3).1, by rw [HL.out, HN.out.2], ?_, hsp8.out⟩, b8⟩
        rw [show (D ++ [d77, d78]).length = n + 2 by simp [HL.out]]
        exact hO
end Go.Proofs.YtfllomfjhkgaoaaGreatDoor

/- ops.Same and the document's Same: two lists, one by one. -/
namespace Go.Proofs.YtfllomfjhkgaoaaGreatDoor
open Go Go.RowKit Go.Lib
set_option linter.unusedVariables false

theorem take_eq_snoc {E E' : List Op5} {k : Nat} {e e' : Op5} (h : E.take k = E'.take k) (h1 : E[k]? = some e) (h2 : E'[k]? = some e') (he : e = e') : E.take (k + 1) = E'.take (k + 1) := by
  rw [List.take_add_one, List.take_add_one, h, h1, h2, he]
theorem ne_at {E E' : List Op5} {k : Nat} {e e' : Op5} (h1 : E[k]? = some e) (h2 : E'[k]? = some e') (he : e ≠ e') : E ≠ E' := fun h => by
  rw [h, h2] at h1; exact he (Option.some.inj h1).symm

set_option maxHeartbeats 2000000 in
set_option maxRecDepth 100000 in
theorem eqF_any (v v' : Value) (E E' : List Op5) (w : World) (h : ReO w v E) (h' : ReO w v' E') (hl : E.length ≤ 2097152) (hl' : E'.length ≤ 2097152) (hA : ∀ e ∈ E, e.A.length ≤ 1048576) (hA' : ∀ e ∈ E', e.A.length ≤ 1048576) :
    Calls Tryz.prog 65 #[v, v', .func (.func 66) #[] #[]] w fun r w' => r = .returned (.bool (decide (E = E'))) ∧ Below w.heap.size w w' := by
  obtain ⟨D, hrow, hre⟩ := h
  obtain ⟨D', hrow', hre'⟩ := h'
  have hE := forall2_len hre
  have hE' := forall2_len hre'
  obtain ⟨n, hn⟩ : ∃ n, D.length = n := ⟨_, rfl⟩
  obtain ⟨m, hm⟩ : ∃ m, D'.length = m := ⟨_, rfl⟩
  obtain ⟨pa, ca, rfl, ha, _, hca⟩ := hrow
  obtain ⟨pb, cb, rfl, hb, _, hcb⟩ := hrow'
  rw [hn] at ha hE ⊢
  rw [hm] at hb hE' ⊢
  have HN : Hid (D.length = n ∧ D'.length = m ∧ E.length = n ∧ E'.length = m) := ⟨hn, hm, hE.symm, hE'.symm⟩
  by_cases hnm : n = m
  · subst hnm
    have HA : Hid (∀ (j : Nat) (d : OV), D[j]? = some d → ∃ b off, pa = some ⟨b, off, none⟩ ∧ OpAt w b (off + j * 7) d) := hca
    have HB : Hid (∀ (j : Nat) (d : OV), D'[j]? = some d → ∃ b off, pb = some ⟨b, off, none⟩ ∧ OpAt w b (off + j * 7) d) := hcb
    have hl : n ≤ 2097152 := by omega
    have CC : Hid (∀ (k : Nat) d d', D[k]? = some d → D'[k]? = some d' → ∃ e e', E[k]? = some e ∧ E'[k]? = some e' ∧ ∀ W, Below w.heap.size w W → Calls Tryz.prog 66 #[ovV d, ovV d'] W fun r w' => r = .returned (.bool (decide (e = e'))) ∧ Below W.heap.size W w') := fun k d d' h1 h2 => by
      obtain ⟨y, hy, r1⟩ := forall2_get hre k d h1
      obtain ⟨y', hy', r2⟩ := forall2_get hre' k d' h2
      refine ⟨y, y', hy, hy', fun W hW => ?_⟩
      rw [opV_of r1, opV_of r2]
      have h3 := hA y (List.mem_of_getElem? hy)
      have h4 := hA' y' (List.mem_of_getElem? hy')
      exact sameC_any y y' _ _ W (r1.2.2.2.2.below hW).row (r2.2.2.2.2.below hW).row (by omega) (by omega)
    have eg := enters_of Tryz.func66 (by kernel_rfl) rfl
    clear hca hcb hn hm hre hre' hE hE' hA hA' hl'
    go_enter Tryz.func65, Tryz.ntmps65
    go_wp2
    go_loopw [17] (fun i wr => ∃ (k : Nat), k ≤ n ∧ i = .int .i64 k ∧ Hid (E.take k = E'.take k) ∧ Below w.heap.size w wr) (fun i _ => n - (RowKit.intOf i).toNat)
    case atStart => exact ⟨0, Nat.zero_le _, rfl, rfl, Below.refl _ _⟩
    case round =>
      obtain ⟨k, hk, rfl, HT, hbw⟩ := hrel
      by_cases hlt : k < n
      · have hltI : (k : Int) < n := by omega
        obtain ⟨d, hd⟩ : ∃ q, D[k]? = some q := ⟨_, List.getElem?_eq_getElem (by rw [HN.out.1]; exact hlt)⟩
        obtain ⟨d', hd'⟩ : ∃ q, D'[k]? = some q := ⟨_, List.getElem?_eq_getElem (by rw [HN.out.2.1]; exact hlt)⟩
        obtain ⟨e, e', he, he', cc⟩ := CC.out k d d' hd hd'
        obtain ⟨b, off, rfl, hin⟩ := HA.out k d hd
        obtain ⟨b', off', rfl, hin'⟩ := HB.out k d' hd'
        have hin := hin.below hbw
        have hin' := hin'.below hbw
        have hbb := (hbw.alloc hbw.size (.cells (ovC d) 48)).alloc (by have := hbw.size; simp; omega) (.cells (ovC d') 48)
        have c1 := cc _ hbb
        have ba : Below wr.heap.size wr (wr.alloc (.cells (ovC d) 48)) := (Below.refl _ _).alloc (Nat.le_refl _) _
        obtain ⟨c0, c1', c2, c3, c4, c5, c6⟩ := hin
        obtain ⟨d0, d1, d2, d3, d4, d5, d6⟩ := hin'.below ba
        have HEE : Hid (E[k]? = some e ∧ E'[k]? = some e') := ⟨he, he'⟩
        clear cc hd hd' he he' hin' ba
        obtain ⟨f, t, ⟨x, z, u⟩, cc1, p, j, c⟩ := d
        obtain ⟨f', t', ⟨x', z', u'⟩, cc1', p', j', c'⟩ := d'
        simp only [slV, ovC] at c0 c1' c2 c3 c4 c5 c6 d0 d1 d2 d3 d4 d5 d6 hbb
        simp only [ovV, ovC, slV] at c1
        obtain ⟨W1, hW1⟩ : ∃ W, W = wr.alloc (.cells #[.int .i64 f, .string t, .int .i64 x, .int .i64 z, .string u, .int .i64 cc1, .slice p j c] 48) := ⟨_, rfl⟩
        rw [← hW1] at d0 d1 d2 d3 d4 d5 d6 c1 hbb
        have e0 : W1.cell? ⟨wr.heap.size, 0, none⟩ = some (.int .i64 f) := by rw [hW1]; simp
        have e1 : W1.cell? ⟨wr.heap.size, 1, none⟩ = some (.string t) := by rw [hW1]; simp
        have e2 : W1.cell? ⟨wr.heap.size, 2, none⟩ = some (.int .i64 x) := by rw [hW1]; simp
        have e3 : W1.cell? ⟨wr.heap.size, 3, none⟩ = some (.int .i64 z) := by rw [hW1]; simp
        have e4 : W1.cell? ⟨wr.heap.size, 4, none⟩ = some (.string u) := by rw [hW1]; simp
        have e5 : W1.cell? ⟨wr.heap.size, 5, none⟩ = some (.int .i64 cc1) := by rw [hW1]; simp
        have e6 : W1.cell? ⟨wr.heap.size, 6, none⟩ = some (.slice p j c) := by rw [hW1]; simp
        have s1 : wr.heap.size < W1.heap.size := by rw [hW1]; simp
        have s2 : ¬ wr.heap.size = W1.heap.size := by omega
        have s3 : ¬ W1.heap.size = wr.heap.size := by omega
        by_cases hee : e = e'
        · rw [decide_eq_true hee] at c1
          have HT2 : Hid (E.take (k + 1) = E'.take (k + 1)) := take_eq_snoc HT.out HEE.out.1 HEE.out.2 hee
          clear hee HEE
          go_upto_region 6 with fail
          rw [← hW1]
          clear hW1
          go_wp2_with fail
          refine c1.mono ?_; rintro r w3 ⟨rfl, b3⟩
          have b4 := hbb.trans (b3.mono hbb.size)
          clear c1 b3 hbb c0 c1' c2 c3 c4 c5 c6 d0 d1 d2 d3 d4 d5 d6 e0 e1 e2 e3 e4 e5 e6
          go_wp2
          go_roundw
          case rel => exact ⟨k + 1, by omega, by go_num, HT2, b4⟩
          case measure => simp [RowKit.intOf]; omega
        · rw [decide_eq_false hee] at c1
          have hfin : Hid (decide (E = E') = false) := decide_eq_false (ne_at HEE.out.1 HEE.out.2 hee)
          clear hee HEE
          go_upto_region 6 with fail
          rw [← hW1]
          clear hW1
          go_wp2_with fail
          refine c1.mono ?_; rintro r w3 ⟨rfl, b3⟩
          have b4 := hbb.trans (b3.mono hbb.size)
          clear c1 b3 hbb c0 c1' c2 c3 c4 c5 c6 d0 d1 d2 d3 d4 d5 d6 e0 e1 e2 e3 e4 e5 e6
          go_wp2
          go_ret
          exact ⟨by rw [hfin.out]; rfl, b4⟩
      · have hltI : ¬ (k : Int) < n := by omega
        have hfin : Hid (decide (E = E') = true) := decide_eq_true (by
          have := HT.out
          rwa [List.take_of_length_le (by rw [HN.out.2.2.1]; omega), List.take_of_length_le (by rw [HN.out.2.2.2]; omega)] at this)
        go_wp2
        go_ret
        exact ⟨by rw [hfin.out]; rfl, hbw⟩
  · have hne : ((n : Int) != m) = true := by simp; omega
    have hfin : Hid (decide (E = E') = false) := decide_eq_false (fun h => hnm (by rw [← HN.out.2.2.1, ← HN.out.2.2.2, h]))
    clear hca hcb hn hm hre hre' hE hE' hA hA' hnm HN hl hl'
    go_enter Tryz.func65, Tryz.ntmps65
    go_wp2
    go_ret
    exact ⟨by rw [hfin.out]; rfl, Below.refl _ _⟩
set_option maxHeartbeats 1000000 in
theorem sameL_any (v v' : Value) (E E' : List Op5) (w : World) (h : ReO w v E) (h' : ReO w v' E') (hl : E.length ≤ 2097152) (hl' : E'.length ≤ 2097152) (hA : ∀ e ∈ E, e.A.length ≤ 1048576) (hA' : ∀ e ∈ E', e.A.length ≤ 1048576) :
    Calls Tryz.prog 41 #[v, v'] w fun r w' => r = .returned (.bool (decide (E = E'))) ∧ Below w.heap.size w w' := by
  have c := eqF_any v v' E E' w h h' hl hl' hA hA'
  obtain ⟨D, ⟨pa, ca, rfl, _, _, _⟩, _⟩ := h
  obtain ⟨D', ⟨pb, cb, rfl, _, _, _⟩, _⟩ := h'
  generalize decide (E = E') = R at c ⊢
  clear hA hA'
  go_enter Tryz.func41, Tryz.ntmps41
  go_wp2_with fail
  refine c.mono ?_; rintro r w2 ⟨rfl, hb2⟩
  go_wp2
  go_ret
  exact ⟨rfl, hb2⟩

end Go.Proofs.YtfllomfjhkgaoaaGreatDoor

/- ops: lengths of pieces, their sums; ops.Lengths. -/
namespace Go.Proofs.YtfllomfjhkgaoaaGreatDoor
open Go Go.RowKit Go.Lib
set_option linter.unusedVariables false

def baseO (o : Op5) : Int := if o.k = 3 ∨ o.k = 4 then len5 o else 0
def resO (o : Op5) : Int := if o.k = 4 then 0 else len5 o
/-- The sums of lengths, asked at each operation. -/
def sumL : Int → Int → List Op5 → Int × Int × Nat
  | b, r, [] => (b, r, 0)
  | b, r, o :: L => if 1099511627776 < b + baseO o ∨ 1099511627776 < r + resO o then (0, 0, 11) else sumL (b + baseO o) (r + resO o) L
/-- What Lengths answers. -/
def lensL (E : List Op5) : Int × Int × Nat := if (badP E).2 ≠ 0 then (0, 0, (badP E).2) else sumL 0 0 E
theorem len5_range {o : Op5} (h : opE o = 0) (f : Fit o) : 0 ≤ len5 o ∧ len5 o ≤ 1099511627776 := by
  unfold len5
  rcases op_good h with ⟨hi, hk⟩ | ⟨hc, hl, hk⟩ | ⟨hc, hA, hk⟩
  · rw [if_pos hk]
    unfold lenO
    split
    · have := (valid_text o.t hi.utf).2.2
      have := f.t
      omega
    · omega
  · rw [if_neg (by omega)]
    have := hc.lo
    have := hc.hi
    omega
  · rw [if_neg (by omega)]
    have := hc.lo
    have := hc.hi
    omega
theorem base_range {o : Op5} (h : opE o = 0) (f : Fit o) : 0 ≤ baseO o ∧ baseO o ≤ 1099511627776 := by
  have := len5_range h f
  unfold baseO
  split <;> omega
theorem res_range {o : Op5} (h : opE o = 0) (f : Fit o) : 0 ≤ resO o ∧ resO o ≤ 1099511627776 := by
  have := len5_range h f
  unfold resO
  split <;> omega
theorem kinds_of {o : Op5} (h : opE o = 0) : o.k = 1 ∨ o.k = 2 ∨ o.k = 3 ∨ o.k = 4 := by
  rcases op_good h with ⟨_, hk⟩ | ⟨_, _, hk⟩ | ⟨_, _, hk⟩ <;> omega

theorem as_i_r (v : Value) (W : World) : (Instr.typeAssert (.iface 125 v) 87 117 true).run Tryz.prog W = .ok (.tuple #[.agg #[.slice none 0 0, .int .i64 0], .bool false]) W := by kernel_rfl
theorem as_e_r (v : Value) (W : World) : (Instr.typeAssert (.iface 157 v) 87 117 true).run Tryz.prog W = .ok (.tuple #[.agg #[.slice none 0 0, .int .i64 0], .bool false]) W := by kernel_rfl
theorem as_d_r (v : Value) (W : World) : (Instr.typeAssert (.iface 89 v) 87 117 true).run Tryz.prog W = .ok (.tuple #[.agg #[.slice none 0 0, .int .i64 0], .bool false]) W := by kernel_rfl
theorem as_r_r (v : Value) (W : World) : (Instr.typeAssert (.iface 117 v) 87 117 true).run Tryz.prog W = .ok (.tuple #[v, .bool true]) W := by kernel_rfl
theorem as_i_d (v : Value) (W : World) : (Instr.typeAssert (.iface 125 v) 87 89 true).run Tryz.prog W = .ok (.tuple #[.agg #[.int .i64 0], .bool false]) W := by kernel_rfl
theorem as_e_d (v : Value) (W : World) : (Instr.typeAssert (.iface 157 v) 87 89 true).run Tryz.prog W = .ok (.tuple #[.agg #[.int .i64 0], .bool false]) W := by kernel_rfl
theorem as_r_d (v : Value) (W : World) : (Instr.typeAssert (.iface 117 v) 87 89 true).run Tryz.prog W = .ok (.tuple #[.agg #[.int .i64 0], .bool false]) W := by kernel_rfl
theorem as_d_d (v : Value) (W : World) : (Instr.typeAssert (.iface 89 v) 87 89 true).run Tryz.prog W = .ok (.tuple #[v, .bool true]) W := by kernel_rfl
theorem as_r_i (v : Value) (W : World) : (Instr.typeAssert (.iface 117 v) 87 125 true).run Tryz.prog W = .ok (.tuple #[.agg #[.slice none 0 0, .string ⟨#[]⟩, .int .i64 0], .bool false]) W := by kernel_rfl
theorem as_d_i (v : Value) (W : World) : (Instr.typeAssert (.iface 89 v) 87 125 true).run Tryz.prog W = .ok (.tuple #[.agg #[.slice none 0 0, .string ⟨#[]⟩, .int .i64 0], .bool false]) W := by kernel_rfl
theorem as_i_b (v : Value) (W : World) : (Instr.typeAssert (.iface 125 v) 87 132 true).run Tryz.prog W = .ok (.tuple #[.iface 125 v, .bool true]) W := by kernel_rfl
theorem as_e_b (v : Value) (W : World) : (Instr.typeAssert (.iface 157 v) 87 132 true).run Tryz.prog W = .ok (.tuple #[.iface 157 v, .bool true]) W := by kernel_rfl
theorem as_r_b (v : Value) (W : World) : (Instr.typeAssert (.iface 117 v) 87 132 true).run Tryz.prog W = .ok (.tuple #[.iface 117 v, .bool true]) W := by kernel_rfl
theorem as_d_b (v : Value) (W : World) : (Instr.typeAssert (.iface 89 v) 87 132 true).run Tryz.prog W = .ok (.tuple #[.nilIface, .bool false]) W :=
  run_typeAssert_lacksB Tryz.underlying132 (by kernel_rfl) (by kernel_rfl) v _ W

theorem rlen_any (s : Value) (n : Int) (w : World) : Calls Tryz.prog 142 #[.agg #[s, .int .i64 n]] w fun e w' => e = .returned (.int .i64 n) ∧ Below w.heap.size w w' := by
  go_enter Tryz.func142, Tryz.ntmps142
  go_wp2
  go_ret
  exact ⟨rfl, (Below.refl _ _).alloc (Nat.le_refl _) _⟩
theorem dlen_any (n : Int) (w : World) : Calls Tryz.prog 139 #[.agg #[.int .i64 n]] w fun e w' => e = .returned (.int .i64 n) ∧ Below w.heap.size w w' := by
  go_enter Tryz.func139, Tryz.ntmps139
  go_wp2
  go_ret
  exact ⟨rfl, (Below.refl _ _).alloc (Nat.le_refl _) _⟩

set_option maxHeartbeats 1000000 in
theorem lensOf_any (o : Op5) (s : Value) (w : World) (hk : o.k = 1 ∨ o.k = 2 ∨ o.k = 3 ∨ o.k = 4) :
    Calls Tryz.prog 69 #[pieceQ o s] w fun r w' => r = .returned (.tuple #[.int .i64 (baseO o), .int .i64 (resO o)]) ∧ Below w.heap.size w w' := by
  unfold pieceQ baseO resO len5 lenO
  obtain ⟨V, hV⟩ : ∃ V, valP o.v = V := ⟨_, rfl⟩
  rw [hV]
  clear hV
  obtain ⟨k, t, v, c, A⟩ := o
  simp only at hk ⊢
  rcases hk with rfl | rfl | rfl | rfl
  · simp only [show ¬ ((1 : Int) = 3) by omega, show ¬ ((1 : Int) = 4) by omega, show ¬ ((1 : Int) = 2) by omega, if_true, if_false, or_false]
    have a1 := as_i_r
    have a2 := as_i_d
    go_enter Tryz.func69, Tryz.ntmps69
    go_wp2_with fail
    refine (ilen_any _ _ _ _).mono ?_; rintro r w3 ⟨rfl, hb3⟩
    go_wp2
    go_ret2
    exact ⟨rfl, hb3⟩
  · simp only [show ¬ ((2 : Int) = 3) by omega, show ¬ ((2 : Int) = 4) by omega, show ¬ ((2 : Int) = 1) by omega, if_true, if_false, or_false, or_true]
    have a1 := as_e_r
    have a2 := as_e_d
    go_enter Tryz.func69, Tryz.ntmps69
    go_wp2_with fail
    refine (elen_any _ _ _ _).mono ?_; rintro r w3 ⟨rfl, hb3⟩
    go_wp2
    go_ret2
    exact ⟨rfl, hb3⟩
  · simp only [show ¬ ((3 : Int) = 1) by omega, show ¬ ((3 : Int) = 2) by omega, show ¬ ((3 : Int) = 4) by omega, if_true, if_false, or_false]
    have a1 := as_r_r
    go_enter Tryz.func69, Tryz.ntmps69
    go_wp2_with fail
    refine (rlen_any _ _ _).mono ?_; rintro r w3 ⟨rfl, hb3⟩
    go_wp2_with fail
    refine (rlen_any _ _ _).mono ?_; rintro r w4 ⟨rfl, hb4⟩
    have b4 := hb3.trans (hb4.mono hb3.size)
    go_wp2
    go_ret2
    exact ⟨rfl, b4⟩
  · simp only [show ¬ ((4 : Int) = 1) by omega, show ¬ ((4 : Int) = 2) by omega, show ¬ ((4 : Int) = 3) by omega, if_true, if_false, or_false, or_true]
    have a1 := as_d_r
    have a2 := as_d_d
    go_enter Tryz.func69, Tryz.ntmps69
    go_wp2_with fail
    refine (dlen_any _ _).mono ?_; rintro r w3 ⟨rfl, hb3⟩
    go_wp2
    go_ret2
    exact ⟨rfl, hb3⟩

theorem oneI {P : List Value} {w : World} {B : Nat} {E : List Op5} (h : PieD w B P E) {k : Nat} {x : Value} (hx : P[k]? = some x) : ∃ e s, E[k]? = some e ∧ x = pieceQ e s ∧ OwnA w B s e.A := by
  obtain ⟨e, he, s, h1, h2⟩ := forall2_get h k x hx
  exact ⟨e, s, he, h1, h2⟩
set_option maxHeartbeats 2000000 in
set_option maxRecDepth 100000 in
theorem sum_any {I : List Nat} {a : Nat → Addr} (v : Value) (P : List Value) (E : List Op5) (B : Nat) (w : World) (hI : ∀ i ∈ IxO, i ∈ I) (hS : Std I a w) (hv : OwnI w B v P) (hp : PieD w B P E) (hg : ∀ o ∈ E, opE o = 0) (hF : FitL E) (hl : E.length ≤ 1048576) :
    Calls Tryz.prog 54 #[v] w fun r w' => r = .returned (.tuple #[.int .i64 (sumL 0 0 E).1, .int .i64 (sumL 0 0 E).2.1, errOf a (sumL 0 0 E).2.2]) ∧ Below w.heap.size w w' := by
  obtain ⟨n, hn⟩ : ∃ n, P.length = n := ⟨_, rfl⟩
  have hPE := forall2_len hp
  obtain ⟨p, cap, rfl⟩ := own_slice hv
  rw [hn] at hv ⊢
  have hl : n ≤ 1048576 := by omega
  have HV : Hid (∀ k, k < n → ∃ ga e s, p = some ⟨ga, 0, none⟩ ∧ E[k]? = some e ∧ w.cell? ⟨ga, k, none⟩ = some (pieceQ e s) ∧ opE e = 0 ∧ Fit e) := fun k hk => by
    obtain ⟨g, c, x, hv', hB, hx, hc⟩ := own_cell hv k (by omega)
    obtain ⟨e, s, he, rfl, _⟩ := oneI hp hx
    simp only [Value.slice.injEq] at hv'
    exact ⟨g, e, s, hv'.1, he, hc, hg e (List.mem_of_getElem? he), hF e (List.mem_of_getElem? he)⟩
  have HN : Hid (E.length = n) := by show _ = _; omega
  have HG : Hid (∀ W, Below w.heap.size w W → W.cell? ⟨11, 0, none⟩ = some (errV a 10)) := fun W hW => (hS.below hW).er.cell 10 (hI 10 (by simp))
  obtain ⟨b9, r9, e9, h9⟩ : ∃ b r e, sumL 0 0 E = (b, r, e) := ⟨_, _, _, rfl⟩
  rw [h9]
  have H9 : Hid (sumL 0 0 (E.drop 0) = (b9, r9, e9)) := by show _ = _; rw [List.drop_zero]; exact h9
  clear hS hv hp hg hF hn hPE h9
  go_enter Tryz.func54, Tryz.ntmps54
  go_wp2
  go_loopw [2, 3, 11] (fun bs rs i wr => ∃ (k : Nat) (b r : Int), k ≤ n ∧ i = .int .i64 k ∧ bs = .int .i64 b ∧ rs = .int .i64 r ∧ 0 ≤ b ∧ b ≤ 1099511627776 ∧ 0 ≤ r ∧ r ≤ 1099511627776 ∧ Hid (sumL b r (E.drop k) = (b9, r9, e9)) ∧ Below w.heap.size w wr) (fun _ _ i _ => n - (RowKit.intOf i).toNat)
  case atStart => exact ⟨0, 0, 0, Nat.zero_le _, rfl, rfl, rfl, by omega, by omega, by omega, by omega, H9, Below.refl _ _⟩
  case round =>
    clear H9
    obtain ⟨k, b, r, hk, rfl, rfl, rfl, h1, h2, h3, h4, HS, hbw⟩ := hrel
    by_cases hlt : k < n
    · have hltI : (k : Int) < n := by omega
      obtain ⟨ga, e, s, rfl, he, hc, hge, hfe⟩ := HV.out k hlt
      have c0 := (hbw.cell (lt_of_cell hc)).trans hc
      have cL := fun W => lensOf_any e s W (kinds_of hge)
      have hb1 := base_range hge hfe
      have hr1 := res_range hge hfe
      obtain ⟨bo, hbo⟩ : ∃ x, baseO e = x := ⟨_, rfl⟩
      obtain ⟨ro, hro⟩ : ∃ x, resO e = x := ⟨_, rfl⟩
      obtain ⟨u, x, hux⟩ := pieceQ_if e s
      have hdr : E.drop k = e :: E.drop (k + 1) := by
        have hlt' : k < E.length := (List.getElem?_eq_some_iff.1 he).1
        rw [List.drop_eq_getElem_cons hlt']
        congr 1
        rw [List.getElem?_eq_getElem hlt'] at he
        exact Option.some.inj he
      have HS' := HS.out
      rw [hdr, sumL, hbo, hro] at HS'
      rw [hux] at c0 cL
      rw [hbo, hro] at cL
      rw [hbo] at hb1
      rw [hro] at hr1
      obtain ⟨hb1, hb2⟩ := hb1
      obtain ⟨hr1, hr2⟩ := hr1
      by_cases hov : 1099511627776 < b + bo ∨ 1099511627776 < r + ro
      · rw [if_pos hov] at HS'
        simp only [Prod.mk.injEq] at HS'
        obtain ⟨rfl, rfl, rfl⟩ := HS'
        clear hdr he hc hge hfe hbo hro hux HS
        by_cases hov1 : 1099511627776 < b + bo
        · have hd1 : decide (1099511627776 < b + bo) = true := decide_eq_true hov1
          go_wp2_with fail
          refine (cL _).mono ?_; rintro r1 w5 ⟨rfl, hb5⟩
          have b5 := hbw.trans (hb5.mono hbw.size)
          have gL := HG.out _ b5
          clear cL c0 hb5 hov
          go_wp2
          go_quiet (fail)
          go_wp2
          go_ret3
          exact ⟨rfl, below_drewN b5 _⟩
        · have hov2 : 1099511627776 < r + ro := by rcases hov with h | h; exact absurd h hov1; exact h
          have hd1 : decide (1099511627776 < b + bo) = false := decide_eq_false hov1
          have hd2 : decide (1099511627776 < r + ro) = true := decide_eq_true hov2
          go_wp2_with fail
          refine (cL _).mono ?_; rintro r1 w5 ⟨rfl, hb5⟩
          have b5 := hbw.trans (hb5.mono hbw.size)
          have gL := HG.out _ b5
          clear cL c0 hb5 hov
          go_wp2
          go_quiet (fail)
          go_wp2
          go_ret3
          exact ⟨rfl, below_drewN b5 _⟩
      · rw [if_neg hov] at HS'
        have HS2 : Hid (sumL (b + bo) (r + ro) (E.drop (k + 1)) = (b9, r9, e9)) := HS'
        have hov1 : ¬ 1099511627776 < b + bo := fun h => hov (Or.inl h)
        have hov2 : ¬ 1099511627776 < r + ro := fun h => hov (Or.inr h)
        have hd1 : decide (1099511627776 < b + bo) = false := decide_eq_false hov1
        have hd2 : decide (1099511627776 < r + ro) = false := decide_eq_false hov2
        clear hdr he hc hge hfe hbo hro hux HS HS' hov
        go_wp2_with fail
        refine (cL _).mono ?_; rintro r1 w5 ⟨rfl, hb5⟩
        have b5 := hbw.trans (hb5.mono hbw.size)
        clear cL c0 hb5
        go_wp2
        go_roundw
        case rel => exact ⟨k + 1, b + bo, r + ro, by omega, by go_num, rfl, rfl, by omega, by omega, by omega, by omega, HS2, b5⟩
        case measure => simp [RowKit.intOf]; omega
    · have hltI : ¬ (k : Int) < n := by omega
      have HS' := HS.out
      rw [List.drop_eq_nil_of_le (by rw [HN.out]; omega), sumL] at HS'
      simp only [Prod.mk.injEq] at HS'
      obtain ⟨rfl, rfl, rfl⟩ := HS'
      clear HS
      go_wp2
      go_ret3
      exact ⟨rfl, hbw⟩
end Go.Proofs.YtfllomfjhkgaoaaGreatDoor
