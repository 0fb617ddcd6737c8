/- What the reference's first and decode answer. What the reference's decode, Breaks, List and Check answer. The order of Plains: a total order. What the reference of layer 2 answers: text, Check, Compare. utf8.ValidString at this program: whether a text breaks nowhere. What the reference of layer 3 says of pairs and lists: its numbers are the code's. What vellumref04.Refuse and Check answer: what an insert is refused with. What vellumref04.Length answers of inserts. The document's answers for ops: empty, Check, Length, apart. The document's answers for lists of operations: Bad, Lengths, Canonical. The document's Canonical. Operations as new memory: appends of rows of operations; vellumlaw05.copied. The errors' numbers: what vellumnum.list and vellumnum.Num answer where all nineteen sentinels lie as laid. Of all lists of operations vellumlaw05.OpsPlays answers true. -/
import Derived.Test.YtkgflmbhkbeakaaDoorMga
import Derived.Test.YtkgflmbhkbeakaaDoorOwn
import Derived.OwnWalk
import Derived.Laws.AppendOwn
import Derived.Test.YtkgflmbhkbeakaaDoorVs
import Derived.Shelf.Unicode.ValidAny
import Derived.Test.YtkgflmbhkbeakaaDoorSc
import Derived.Test.YtkgflmbhkbeakaaDoorUtf
import Derived.Test.YtkgflmbhkbeakaaDoorPc
import Derived.Test.YtkgflmbhkbeakaaDoorSw
import Derived.Test.YtkgflmbhkbeakaaDoorCf
import Derived.Test.YtkgflmbhkbeakaaDoorQf
import Derived.Test.YtkgflmbhkbeakaaDoorQg
import Derived.Deep.RegionHeld3
import Derived.Test.YtkgflmbhkbeakaaDoorQd
import Derived.Deep.DeepCutAuto
import Derived.Test.YtkgflmbhkbeakaaDoorEr
import Derived.Test.YtkgflmbhkbeakaaDoorQn

/- What the reference's first and decode answer. -/
namespace Go.Proofs.YtkgflmbhkbeakaaDoor
open Go Go.RowKit Go.Lib Go.PlainAid
set_option linter.unusedVariables false

theorem bt_at (s : ByteArray) (k j : Nat) (x : UInt8) (h : (s.data.toList.drop k)[j]? = some x) : bt s (k + j) = (x.toNat : Int) ∧ k + j < s.size := by
  rw [List.getElem?_drop] at h
  obtain ⟨h1, h2⟩ := List.getElem?_eq_some_iff.1 h
  rw [size_toList] at h1
  refine ⟨?_, h1⟩
  unfold bt
  rw [dif_pos h1, ← h2]
  rfl

theorem bt_enc (s : ByteArray) (k j : Nat) (z : Int) (l : List UInt8) (hz0 : 0 ≤ z) (hz1 : z < 256) (hd : s.data.toList.drop k = l) (h : l[j]? = some z.toNat.toUInt8) : bt s (k + j) = z ∧ k + j < s.size := by
  obtain ⟨h1, h2⟩ := bt_at s k j _ (by rw [hd]; exact h)
  rw [u8_nat _ hz0 hz1] at h1
  exact ⟨by omega, h2⟩

theorem ref_first_ok (s : ByteArray) (k : Nat) (w : World) (hs : s.size ≤ 140737488351232) (r : Nat) (h : scal r) (t : List UInt8) (hd : s.data.toList.drop k = enc r ++ t) :
    Calls Tryd.prog 125 #[.string s, .int .i64 k] w fun e w' => e = .returned (.tuple #[.int .i32 r, .int .i64 ((enc r).length : Nat)]) ∧ Below w.heap.size w w' := by
  have hX : s.extract k (k + (enc r).length) = ⟨(enc r).toArray⟩ := extract_of s (enc r) k (k + (enc r).length) (by rw [hd, Nat.add_sub_cancel_left, List.take_left])
  have hh := h
  unfold scal at hh
  by_cases h1 : r < 128
  · have e := enc_one h1
    rw [e] at hd
    obtain ⟨a0, s0⟩ := bt_enc s k 0 _ _ (by omega) (by omega) hd rfl
    rw [Nat.add_zero] at a0 s0
    have hl : (enc r).length = 1 := by rw [e]; rfl
    rw [hl] at hX ⊢
    exact rf1_same s k w hs s0 (by omega) s0 r h r rfl (by omega) hX
  by_cases h2 : r < 2048
  · have e := enc_two (by omega) h2
    rw [e] at hd
    obtain ⟨a0, s0⟩ := bt_enc s k 0 _ _ (by omega) (by omega) hd rfl
    obtain ⟨a1, s1⟩ := bt_enc s k 1 _ _ (by omega) (by omega) hd rfl
    rw [Nat.add_zero] at a0 s0
    have hl : (enc r).length = 2 := by rw [e]; rfl
    rw [hl] at hX ⊢
    exact rf2_same s k w hs s0 (by omega) (by omega) s1 r h r rfl (by omega) hX
  by_cases h3 : r < 65536
  · have e := enc_three (by omega) h3 h
    rw [e] at hd
    obtain ⟨a0, s0⟩ := bt_enc s k 0 _ _ (by omega) (by omega) hd rfl
    obtain ⟨a1, s1⟩ := bt_enc s k 1 _ _ (by omega) (by omega) hd rfl
    obtain ⟨a2, s2⟩ := bt_enc s k 2 _ _ (by omega) (by omega) hd rfl
    rw [Nat.add_zero] at a0 s0
    have hl : (enc r).length = 3 := by rw [e]; rfl
    rw [hl] at hX ⊢
    exact rf3_same s k w hs s0 (by omega) (by omega) s2 r h r rfl (by omega) hX
  · have e := enc_four (by omega) (by omega : r ≤ 1114111)
    rw [e] at hd
    obtain ⟨a0, s0⟩ := bt_enc s k 0 _ _ (by omega) (by omega) hd rfl
    obtain ⟨a1, s1⟩ := bt_enc s k 1 _ _ (by omega) (by omega) hd rfl
    obtain ⟨a2, s2⟩ := bt_enc s k 2 _ _ (by omega) (by omega) hd rfl
    obtain ⟨a3, s3⟩ := bt_enc s k 3 _ _ (by omega) (by omega) hd rfl
    rw [Nat.add_zero] at a0 s0
    have hl : (enc r).length = 4 := by rw [e]; rfl
    rw [hl] at hX ⊢
    exact rf4_same s k w hs s0 (by omega) s3 r h r rfl (by omega) hX

theorem not_extract {s : ByteArray} {k n : Nat} {R : Nat} (hR : scal R) (hst : stuckL (s.data.toList.drop k)) : ¬ ⟨(enc R).toArray⟩ = s.extract k (k + n) := by
  intro e
  have e1 := congrArg (fun x : ByteArray => x.data.toList) e
  simp only [extract_data, Nat.add_sub_cancel_left] at e1
  have e2 : s.data.toList.drop k = enc R ++ (s.data.toList.drop k).drop n := by
    conv => lhs; rw [← List.take_append_drop n (s.data.toList.drop k)]
    rw [← e1]
  exact not_stuck_enc hR _ (e2 ▸ hst)

theorem ref_first_bad (s : ByteArray) (k : Nat) (w : World) (hs : s.size ≤ 140737488351232) (hk : k < s.size) (hst : stuckL (s.data.toList.drop k)) :
    Calls Tryd.prog 125 #[.string s, .int .i64 k] w fun e w' => e = .returned (.tuple #[.int .i32 0, .int .i64 0]) ∧ Below w.heap.size w w' := by
  have q0 := bt_nonneg s k
  have q1 := bt_nonneg s (k + 1)
  have q2 := bt_nonneg s (k + 2)
  have q3 := bt_nonneg s (k + 3)
  have go : ∀ Z : Int, isScal Z → ∃ R : Nat, scal R ∧ Z = R := fun Z hz => ⟨Z.toNat, by unfold isScal at hz; unfold scal; omega, by unfold isScal at hz; omega⟩
  by_cases h1 : bt s k < 192
  · by_cases hZ : isScal (bt s k)
    · obtain ⟨R, hR, e⟩ := go _ hZ
      exact rf1_other s k w hs hk h1 hk R hR _ e rfl (not_extract hR hst)
    · exact rf1_non s k w hs hk h1 hk _ rfl hZ
  by_cases h2 : bt s k < 224
  · by_cases ho : s.size < k + 2
    · exact rf2_out s k w hs hk (by omega) h2 ho
    by_cases hZ : isScal ((bt s k - 192) * 64 + bt s (k + 1) % 64)
    · obtain ⟨R, hR, e⟩ := go _ hZ
      exact rf2_other s k w hs hk (by omega) h2 (by omega) R hR _ e rfl (not_extract hR hst)
    · exact rf2_non s k w hs hk (by omega) h2 (by omega) _ rfl hZ
  by_cases h3 : bt s k < 240
  · by_cases ho : s.size < k + 3
    · exact rf3_out s k w hs hk (by omega) h3 ho
    by_cases hZ : isScal (((bt s k - 224) * 64 + bt s (k + 1) % 64) * 64 + bt s (k + 2) % 64)
    · obtain ⟨R, hR, e⟩ := go _ hZ
      exact rf3_other s k w hs hk (by omega) h3 (by omega) R hR _ e rfl (not_extract hR hst)
    · exact rf3_non s k w hs hk (by omega) h3 (by omega) _ rfl hZ
  · by_cases ho : s.size < k + 4
    · exact rf4_out s k w hs hk (by omega) ho
    by_cases hZ : isScal ((((bt s k - 240) * 64 + bt s (k + 1) % 64) * 64 + bt s (k + 2) % 64) * 64 + bt s (k + 3) % 64)
    · obtain ⟨R, hR, e⟩ := go _ hZ
      exact rf4_other s k w hs hk (by omega) (by omega) R hR _ e rfl (not_extract hR hst)
    · exact rf4_non s k w hs hk (by omega) (by omega) _ rfl hZ
end Go.Proofs.YtkgflmbhkbeakaaDoor

/- What the reference's decode, Breaks, List and Check answer. -/
namespace Go.Proofs.YtkgflmbhkbeakaaDoor
open Go Go.RowKit Go.Lib
set_option linter.unusedVariables false

set_option maxHeartbeats 1000000 in
set_option maxRecDepth 100000 in
theorem ref_decode (s : ByteArray) (w : World) (hs : s.size ≤ 35184372087808) :
    Calls Tryd.prog 120 #[.string s] w fun e w' => ∃ v, e = .returned (.tuple #[v, .int .i64 (brk s.data.toList)]) ∧ Own32 w.heap.size w' v (ints (scs s.data.toList)) ∧ (∃ g cap, v = .slice (some ⟨g, 0, none⟩) (scs s.data.toList).length cap) ∧ Below w.heap.size w w' := by
  obtain ⟨t, h1, h2, h3⟩ := text_cases s.data.toList
  have hbk : brk s.data.toList = (encs (scs s.data.toList)).length := rfl
  obtain ⟨rs, hrs⟩ : ∃ rs, scs s.data.toList = rs := ⟨_, rfl⟩
  obtain ⟨B, hB⟩ : ∃ B, brk s.data.toList = B := ⟨_, rfl⟩
  rw [hB, hrs] at hbk
  rw [hrs] at h1 h3 ⊢
  rw [hB]
  obtain ⟨n, hn⟩ : ∃ n, rs.length = n := ⟨_, rfl⟩
  have hpn : pos rs n = B := by rw [← hn, pos_all, hbk]
  have hsz : B + t.length = s.size := by
    have := congrArg List.length h3
    rw [List.length_append, size_toList] at this
    omega
  have hnB : n ≤ B := by
    have : ∀ rs : List Nat, (∀ r ∈ rs, scal r) → rs.length ≤ (encs rs).length := fun rs => by
      induction rs with
      | nil => intro _; exact Nat.le_refl _
      | cons x rs ih =>
        intro hx
        have := enc_pos (hx x (by simp))
        have := ih fun r hr => hx r (by simp [hr])
        simp only [encs, List.length_append, List.length_cons]
        omega
    have := this rs h1
    omega
  have hdrop : ∀ i, s.data.toList.drop (pos rs i) = encs (rs.drop i) ++ t := fun i => by
    rw [h3, List.drop_append_of_le_length (pos_le rs i), drop_pos]
  obtain ⟨i0, z0, hi, hz, hz1, hz2, hz3⟩ := info32
  have hZ : Hid (i0.zero = some z0 ∧ i0.size = 1 ∧ i0.bytes = 4 ∧ z0.cells.size = 1) := ⟨hz, hz1, hz2, hz3⟩
  have HD : Hid (∀ i, s.data.toList.drop (pos rs i) = encs (rs.drop i) ++ t) := hdrop
  have HP : Hid (pos rs n = B) := hpn
  have HN : Hid (rs.length = n) := hn
  have HS : Hid (B + t.length = s.size) := hsz
  have hBs : B ≤ s.size := by omega
  clear hz hz1 hz2 hz3 hdrop hpn hn hsz h3 hrs hB hbk
  go_enter Tryd.func120, Tryd.ntmps120
  go_wp2
  have hst : (w.alloc (.cells #[] 21)).ownsRow w.heap.size 21 1 (.slice (some ⟨w.heap.size, 0, none⟩) 0 0) 0 [] := World.ownsRow_made w #[] 0 (Nat.le_refl _) (Nat.zero_le _) rfl
  have hbi : Below w.heap.size w (w.alloc (.cells #[] 21)) := (Below.refl _ _).alloc (Nat.le_refl _) _
  obtain ⟨v0, hv0⟩ : ∃ v0 : Value, v0 = Value.slice (some ⟨w.heap.size, 0, none⟩) 0 0 := ⟨_, rfl⟩
  have HV0 : Hid (∃ g cap, v0 = .slice (some ⟨g, 0, none⟩) 0 cap) := ⟨_, _, hv0⟩
  rw [← hv0] at hst ⊢
  obtain ⟨wi, hwi⟩ : ∃ wi, wi = w.alloc (.cells #[] 21) := ⟨_, rfl⟩
  rw [← hwi] at hst hbi ⊢
  clear hv0 hwi
  go_loopw [4, 5] (fun v p wr => ∃ i q : Nat, i ≤ n ∧ p = .int .i64 q ∧ q = pos rs i ∧ wr.ownsRow w.heap.size 21 1 v i (cells32 (ints (rs.take i))) ∧ (∃ g cap, v = .slice (some ⟨g, 0, none⟩) i cap) ∧ Below w.heap.size w wr) (fun _ p _ => s.size - (RowKit.intOf p).toNat)
  case atStart => exact ⟨0, 0, Nat.zero_le _, rfl, rfl, hst, HV0.out, hbi⟩
  case round =>
    clear hst hbi
    obtain ⟨i, q, hin, rfl, hq, hown, hform, hbw⟩ := hrel
    have HF : Hid (∃ g cap, u4 = .slice (some ⟨g, 0, none⟩) i cap) := hform
    clear hform
    by_cases hlt : i < n
    · have hr := h1 _ (List.getElem_mem (show i < rs.length by rw [HN.out]; exact hlt))
      have hps := pos_succ rs i (by rw [HN.out]; exact hlt)
      have hpl := enc_pos hr
      have hle : pos rs (i + 1) ≤ s.size := by
        have := congrArg List.length (HD.out (i + 1))
        have h4 := pos_le rs (i + 1)
        have h5 := HP.out
        rw [← HN.out, pos_all] at h5
        omega
      have hd : s.data.toList.drop q = enc (rs[i]'(by rw [HN.out]; exact hlt)) ++ (encs (rs.drop (i + 1)) ++ t) := by
        rw [hq, HD.out i, List.drop_eq_getElem_cons (by rw [HN.out]; exact hlt), encs, List.append_assoc]
      have HT : Hid (cells32 (ints (rs.take (i + 1))) = cells32 (ints (rs.take i)) ++ [.int .i32 ((rs[i]'(by rw [HN.out]; exact hlt) : Nat) : Int)]) := by
        show _ = _
        rw [List.take_succ_eq_append_getElem (by rw [HN.out]; exact hlt)]
        simp only [cells32, ints, List.map_append, List.map_cons, List.map_nil]
      have c := fun W => ref_first_ok s q W (by omega) _ hr _ hd
      obtain ⟨R, hR⟩ : ∃ R, rs[i]'(by rw [HN.out]; exact hlt) = R := ⟨_, rfl⟩
      rw [hR] at hps hpl HT c
      obtain ⟨L, hL⟩ : ∃ L, (enc R).length = L := ⟨_, rfl⟩
      rw [hL] at hps hpl c
      rw [hps, ← hq] at hle
      have HQ : Hid (pos rs (i + 1) = q + L) := by show _ = _; rw [hps, hq]
      clear hd hps hR hL h1 hq hr
      go_wp2_with (first
        | (go_at_call 125; refine (c _).mono ?_; rintro e w2 ⟨rfl, hb2⟩; have hbw2 := hbw.trans (hb2.mono hbw.size); have hown3 : (w2.alloc (.cells #[.int .i32 R] 21)).ownsRow w.heap.size 21 1 _ i _ := owns_below (owns_below hown hb2) ((Below.refl _ _).alloc (Nat.le_refl _) _))
        | (at_builtin; refine wpList_append_own _ rfl _ _ 155 rfl w.heap.size 21 i0 z0 1 4 Tryd.underlying155 hi hZ.out.1 hZ.out.2.1 hZ.out.2.2.1 hZ.out.2.2.2 (by decide) _ i _ rfl hown3 ⟨w2.heap.size, 0, none⟩ 1 1 [.int .i32 R] rfl rfl (by intro j u hj; cases j with | zero => (simp at hj; subst hj; simp [Addr.add]) | succ j => simp at hj) (fun u hu => by rw [List.mem_singleton.1 hu]; rfl) (by unfold maxLen; omega) (by omega) (by simp; have := hbw2.size; omega) ?_; intro v' w3 hown4 hgr4 _))
      have hb3 : Below w.heap.size w w3 := (hbw2.alloc hbw2.size _).grown hgr4 (by have := hbw2.size; simp; omega) (fun k hk => (owns_block hown3 k hk).1)
      go_roundw
      case rel => exact ⟨i + 1, q + L, by omega, by go_num, HQ.out.symm, by rw [HT.out]; exact hown4, own_val hown4 (by omega), hb3⟩
      case measure => simp [RowKit.intOf]; omega
    · obtain rfl : i = n := by omega
      have hqB : q = B := by rw [hq, HP.out]
      have hall : rs.take i = rs := List.take_of_length_le (by rw [HN.out]; exact Nat.le_refl _)
      have HO : Hid (wr.ownsRow w.heap.size 21 1 u4 (ints rs).length (cells32 (ints rs))) := by
        show wr.ownsRow _ _ _ _ _ _
        rw [ints_length, HN.out]
        rw [hall] at hown
        exact hown
      subst hqB
      by_cases hend : q < s.size
      · have hst : stuckL (s.data.toList.drop q) := by
          have e0 : rs.drop i = [] := List.drop_eq_nil_of_le (by rw [HN.out]; exact Nat.le_refl _)
          have := HD.out i
          rw [← hq, e0] at this
          simp only [encs, List.nil_append] at this
          rw [this]
          exact h2
        have c := ref_first_bad s q wr (by omega) hend hst
        have hendI : (q : Int) < s.size := by omega
        clear hown hall hq h1 hst
        go_wp2_with (go_at_call 125; refine c.mono ?_; rintro e w2 ⟨rfl, hb2⟩)
        go_ret2
        exact ⟨_, rfl, owns_below HO.out hb2, by rw [HN.out]; exact HF.out, hbw.trans (hb2.mono hbw.size)⟩
      · have hendI : ¬ (q : Int) < s.size := by omega
        clear hown hall hq h1
        go_wp2
        go_ret2
        exact ⟨_, rfl, HO.out, by rw [HN.out]; exact HF.out, hbw⟩

theorem ref_breaks (s : ByteArray) (w : World) (hs : s.size ≤ 35184372087808) :
    Calls Tryd.prog 119 #[.string s] w fun e w' => e = .returned (.int .i64 (brk s.data.toList)) ∧ Below w.heap.size w w' := by
  have c := ref_decode s w hs
  go_enter Tryd.func119, Tryd.ntmps119
  go_wp2_with (go_at_call 120; refine c.mono ?_; rintro e w2 ⟨v, rfl, _, _, hb2⟩)
  go_ret
  exact ⟨rfl, hb2⟩
theorem ref_list (s : ByteArray) (w : World) (hs : s.size ≤ 35184372087808) :
    Calls Tryd.prog 107 #[.string s] w fun e w' => ∃ v, e = .returned v ∧ Own32 w.heap.size w' v (ints (scs s.data.toList)) ∧ (∃ g cap, v = .slice (some ⟨g, 0, none⟩) (scs s.data.toList).length cap) ∧ Below w.heap.size w w' := by
  have c := ref_decode s w hs
  go_enter Tryd.func107, Tryd.ntmps107
  go_wp2_with (go_at_call 120; refine c.mono ?_; rintro e w2 ⟨v, rfl, hv, hf, hb2⟩)
  go_ret
  exact ⟨_, rfl, hv, hf, hb2⟩
end Go.Proofs.YtkgflmbhkbeakaaDoor

/- The order of Plains: a total order. -/
namespace Go.Proofs.YtkgflmbhkbeakaaDoor
open Go Go.RowKit Go.Lib
set_option linter.unusedVariables false

theorem ci_cases (x y : Int) : (x < y ∧ compareInt x y = -1) ∨ (x = y ∧ compareInt x y = 0) ∨ (y < x ∧ compareInt x y = 1) := by
  unfold compareInt
  by_cases h : x < y
  · left; simp [h]
  · by_cases h2 : x > y
    · right; right; simp [h, h2]
    · right; left
      refine ⟨by omega, by simp [h, h2]⟩
theorem cmp_range (k n : Int) (t : ByteArray) (k' n' : Int) (t' : ByteArray) : -1 ≤ cmpP k n t k' n' t' ∧ cmpP k n t k' n' t' ≤ 1 := by
  unfold cmpP orZ
  have h3 := cb_range t.data.toList t'.data.toList
  rcases ci_cases k k' with ⟨_, h1⟩ | ⟨_, h1⟩ | ⟨_, h1⟩ <;> rw [h1] <;> simp
  rcases ci_cases n n' with ⟨_, h2⟩ | ⟨_, h2⟩ | ⟨_, h2⟩ <;> rw [h2] <;> simp
  omega
theorem cmp_swap (k n : Int) (t : ByteArray) (k' n' : Int) (t' : ByteArray) : cmpP k' n' t' k n t = - cmpP k n t k' n' t' := by
  unfold cmpP orZ
  rcases ci_cases k k' with ⟨a1, h1⟩ | ⟨a1, h1⟩ | ⟨a1, h1⟩ <;> rcases ci_cases k' k with ⟨a2, h2⟩ | ⟨a2, h2⟩ | ⟨a2, h2⟩ <;> rw [h1, h2] <;> simp <;> (try omega)
  rcases ci_cases n n' with ⟨b1, g1⟩ | ⟨b1, g1⟩ | ⟨b1, g1⟩ <;> rcases ci_cases n' n with ⟨b2, g2⟩ | ⟨b2, g2⟩ | ⟨b2, g2⟩ <;> rw [g1, g2] <;> simp <;> (try omega)
  exact cb_swap _ _
theorem cmp_zero (k n : Int) (t : ByteArray) (k' n' : Int) (t' : ByteArray) : cmpP k n t k' n' t' = 0 ↔ samB k n t k' n' t' = true := by
  rw [samB_iff]
  unfold cmpP orZ
  rcases ci_cases k k' with ⟨a1, h1⟩ | ⟨a1, h1⟩ | ⟨a1, h1⟩ <;> rw [h1] <;> simp
  · omega
  · rcases ci_cases n n' with ⟨b1, g1⟩ | ⟨b1, g1⟩ | ⟨b1, g1⟩ <;> rw [g1] <;> simp
    · omega
    · rw [cb_zero]
      constructor
      · intro h; exact ⟨a1, b1, ByteArray.ext (Array.ext' h)⟩
      · rintro ⟨_, _, rfl⟩; rfl
    · omega
  · omega
theorem cmp_trans (k n : Int) (t : ByteArray) (k' n' : Int) (t' : ByteArray) (k2 n2 : Int) (t2 : ByteArray) (h1 : cmpP k n t k' n' t' ≤ 0) (h2 : cmpP k' n' t' k2 n2 t2 ≤ 0) :
    cmpP k n t k2 n2 t2 ≤ 0 ∧ (cmpP k n t k' n' t' < 0 → cmpP k n t k2 n2 t2 < 0) := by
  unfold cmpP orZ at *
  rcases ci_cases k k' with ⟨a1, e1⟩ | ⟨a1, e1⟩ | ⟨a1, e1⟩ <;> rw [e1] at h1 ⊢ <;>
  rcases ci_cases k' k2 with ⟨a2, e2⟩ | ⟨a2, e2⟩ | ⟨a2, e2⟩ <;> rw [e2] at h2 <;>
  rcases ci_cases k k2 with ⟨a3, e3⟩ | ⟨a3, e3⟩ | ⟨a3, e3⟩ <;> rw [e3] <;> simp at h1 h2 ⊢ <;> (try omega)
  rcases ci_cases n n' with ⟨b1, g1⟩ | ⟨b1, g1⟩ | ⟨b1, g1⟩ <;> rw [g1] at h1 ⊢ <;>
  rcases ci_cases n' n2 with ⟨b2, g2⟩ | ⟨b2, g2⟩ | ⟨b2, g2⟩ <;> rw [g2] at h2 <;>
  rcases ci_cases n n2 with ⟨b3, g3⟩ | ⟨b3, g3⟩ | ⟨b3, g3⟩ <;> rw [g3] <;> simp at h1 h2 ⊢ <;> (try omega)
  have := cb_trans _ _ _ h1 h2
  exact ⟨this.1, this.2.1⟩
theorem cmp_num {k n n' : Int} : cmpP k n ⟨#[]⟩ k n' ⟨#[]⟩ = compareInt n n' := by
  unfold cmpP orZ
  rcases ci_cases k k with ⟨a1, h1⟩ | ⟨a1, h1⟩ | ⟨a1, h1⟩
  · omega
  · rw [h1]; simp
    intro h
    rw [h, cb_zero]
  · omega
theorem cmp_text {t t' : ByteArray} : cmpP 3 0 t 3 0 t' = compareBytes t.data.toList t'.data.toList := by
  unfold cmpP orZ
  rcases ci_cases 3 3 with ⟨a1, h1⟩ | ⟨a1, h1⟩ | ⟨a1, h1⟩
  · omega
  · rcases ci_cases 0 0 with ⟨a2, h2⟩ | ⟨a2, h2⟩ | ⟨a2, h2⟩
    · omega
    · rw [h1, h2]; simp
    · omega
  · omega

end Go.Proofs.YtkgflmbhkbeakaaDoor

/- What the reference of layer 2 answers: text, Check, Compare. -/
namespace Go.Proofs.YtkgflmbhkbeakaaDoor
open Go Go.RowKit Go.Lib
set_option linter.unusedVariables false

theorem ref_utf8 (s : ByteArray) (w : World) (hs : s.size ≤ 35184372087808) (b : Bool) (hb : decide (brk s.data.toList = s.size) = b) :
    Calls Tryd.prog 104 #[.string s] w fun e w' => e = .returned (.bool b) ∧ Below w.heap.size w w' := by
  have c := ref_breaks s w hs
  obtain ⟨B, hB⟩ : ∃ B, brk s.data.toList = B := ⟨_, rfl⟩
  rw [hB] at c hb
  have e : ((B : Int) == (s.size : Int)) = b := by
    rw [← hb, Bool.eq_iff_iff]; simp; omega
  clear hB hb
  go_enter Tryd.func104, Tryd.ntmps104
  go_wp2_with (go_at_call 119; refine c.mono ?_; rintro r w2 ⟨rfl, hb2⟩)
  go_ret
  exact ⟨rfl, hb2⟩

theorem ref_txt (t : ByteArray) (w : World) (hs : t.size ≤ 35184372087808) :
    Calls Tryd.prog 111 #[.string t] w fun e w' => e = .returned (.int .i64 (txtE t)) ∧ Below w.heap.size w w' := by
  rcases txtE_cases t with ⟨he, hv, hl⟩ | ⟨he, hv, hl⟩ | ⟨he, hv⟩
  all_goals rw [he]
  · have c := ref_utf8 t w hs true (by simpa using hv)
    have hl' : (t.size : Int) ≤ 1048576 := by omega
    clear hv he
    go_enter Tryd.func111, Tryd.ntmps111
    go_wp2_with (go_at_call 104; refine c.mono ?_; rintro r w2 ⟨rfl, hb2⟩)
    go_ret
    exact ⟨rfl, hb2⟩
  · have c := ref_utf8 t w hs true (by simpa using hv)
    have hl' : (1048576 : Int) < t.size := by omega
    clear hv he
    go_enter Tryd.func111, Tryd.ntmps111
    go_wp2_with (go_at_call 104; refine c.mono ?_; rintro r w2 ⟨rfl, hb2⟩)
    go_ret
    exact ⟨rfl, hb2⟩
  · have c := ref_utf8 t w hs false (by simpa using hv)
    clear hv he
    go_enter Tryd.func111, Tryd.ntmps111
    go_wp2_with (go_at_call 104; refine c.mono ?_; rintro r w2 ⟨rfl, hb2⟩)
    go_ret
    exact ⟨rfl, hb2⟩

theorem ref_chk (k n : Int) (t : ByteArray) (w : World) (hs : t.size ≤ 35184372087808) :
    Calls Tryd.prog 96 #[pl k n t] w fun e w' => e = .returned (.int .i64 (chk k n t)) ∧ Below w.heap.size w w' := by
  have b0 := (Below.refl w.heap.size w).alloc (Nat.le_refl _) (.cells #[.int .i64 k, .int .i64 n, .string t] 36)
  have cT := from_below b0 (ref_txt t _ hs)
  obtain ⟨E, hE⟩ : ∃ E, chk k n t = E := ⟨_, rfl⟩
  rw [hE]
  by_cases h3 : k = 3
  · subst h3
    by_cases hn : n = 0
    · subst hn
      rw [chk_text] at hE
      rw [hE] at cT
      clear hE
      go_enter Tryd.func96, Tryd.ntmps96
      go_wp2_with (go_at_call 111; refine cT.mono ?_; rintro r w2 ⟨rfl, hb2⟩)
      go_ret
      exact ⟨rfl, hb2⟩
    · have hd : (n == 0) = false := by simpa using hn
      have : E = 5 := by rw [← hE]; simp [chk, fitB, hn]
      subst this
      clear hE cT hn
      go_enter Tryd.func96, Tryd.ntmps96
      go_wp2
      go_ret
      exact ⟨rfl, b0⟩
  · have hT : fitB k n t = true → t = ⟨#[]⟩ := fun hf => by
      have hf2 := hf
      unfold fitB at hf2
      repeat' split at hf2
      all_goals first | (simp only [Bool.and_eq_true, emp_iff] at hf2; exact hf2.2) | exact emp_iff.1 hf2 | (exfalso; omega) | (exfalso; cases hf2)
    have hE2 : E = if fitB k n t then 0 else 5 := by
      rw [← hE, chk]
      by_cases hf : fitB k n t = true
      · rw [if_pos hf, if_pos hf, hT hf, txtE_nil]
      · rw [if_neg hf, if_neg hf]
    clear hE hT cT
    by_cases h0 : k = 0
    · subst h0
      by_cases hn : n = 0
      · subst hn
        cases hEm : t.toList.isEmpty <;>
        · simp [fitB, hEm] at hE2
          subst hE2
          go_enter Tryd.func96, Tryd.ntmps96
          go_wp2
          go_ret
          exact ⟨rfl, b0⟩
      · have hd : (n != 0) = true := by simpa using hn
        simp [fitB, hn] at hE2
        subst hE2
        clear hn
        go_enter Tryd.func96, Tryd.ntmps96
        go_wp2
        go_ret
        exact ⟨rfl, b0⟩
    by_cases h1 : k = 1
    · subst h1
      clear h0 h3
      by_cases hlo : n < 0
      · have a1 : n ≠ 0 := by omega
        have a2 : n ≠ 1 := by omega
        simp [fitB, a1, a2] at hE2
        subst hE2
        clear a1 a2
        go_enter Tryd.func96, Tryd.ntmps96
        go_wp2
        go_ret
        exact ⟨rfl, b0⟩
      by_cases hhi : 1 < n
      · have a1 : n ≠ 0 := by omega
        have a2 : n ≠ 1 := by omega
        simp [fitB, a1, a2] at hE2
        subst hE2
        clear a1 a2
        go_enter Tryd.func96, Tryd.ntmps96
        go_wp2
        go_ret
        exact ⟨rfl, b0⟩
      · have hn : n = 0 ∨ n = 1 := by omega
        clear hlo hhi
        rcases hn with rfl | rfl
        all_goals
          cases hEm : t.toList.isEmpty <;>
          · simp [fitB, hEm] at hE2
            subst hE2
            go_enter Tryd.func96, Tryd.ntmps96
            go_wp2
            go_ret
            exact ⟨rfl, b0⟩
    by_cases h2 : k = 2
    · subst h2
      clear h0 h1 h3
      cases hEm : t.toList.isEmpty <;>
      · simp [fitB, hEm] at hE2
        subst hE2
        go_enter Tryd.func96, Tryd.ntmps96
        go_wp2
        go_ret
        exact ⟨rfl, b0⟩
    · have d0 : (k == 0) = false := by simpa using h0
      have d1 : (k == 1) = false := by simpa using h1
      have d2 : (k == 2) = false := by simpa using h2
      have d3 : (k == 3) = false := by simpa using h3
      simp [fitB, h0, h1, h2, h3] at hE2
      subst hE2
      clear h0 h1 h2 h3
      go_enter Tryd.func96, Tryd.ntmps96
      go_wp2
      go_ret
      exact ⟨rfl, b0⟩

end Go.Proofs.YtkgflmbhkbeakaaDoor

/- utf8.ValidString at this program: whether a text breaks nowhere. -/
namespace Go.Proofs.YtkgflmbhkbeakaaDoor
open Go Go.RowKit Go.Lib Go.Shelf
set_option linter.unusedVariables false

def Tryd.lays196_ren : Go.Shelf.Ren := ⟨fun | 196 => 95 | 259 => 110 | n => n, fun | 0 => 0 | 3 => 3 | 4 => 4 | 5 => 5 | 9 => 9 | 12 => 12 | 46 => 150 | 53 => 169 | 119 => 160 | 138 => 162 | 139 => 163 | n => n, fun | 3 => 19 | 4 => 20 | n => n⟩
theorem Tryd.lays196 : Go.Proofs.Lays.n196 Tryd.prog Tryd.lays196_ren := {
  mixed := by kernel_rfl
  f196 := Tryd.func95.trans (congrArg some (by kernel_rfl))
  f259 := Tryd.func110.trans (congrArg some (by kernel_rfl))
  t0 := Tryd.underlying0
  a0 := Tryd.isAgg0
  z0 := Tryd.sizeOf0
  v0 := Tryd.zeroValue0
  t3 := Tryd.underlying3
  a3 := Tryd.isAgg3
  z3 := Tryd.sizeOf3
  v3 := Tryd.zeroValue3
  t4 := Tryd.underlying4
  a4 := Tryd.isAgg4
  z4 := Tryd.sizeOf4
  v4 := Tryd.zeroValue4
  t5 := Tryd.underlying5
  a5 := Tryd.isAgg5
  z5 := Tryd.sizeOf5
  v5 := Tryd.zeroValue5
  t9 := Tryd.underlying9
  a9 := Tryd.isAgg9
  z9 := Tryd.sizeOf9
  v9 := Tryd.zeroValue9
  t12 := Tryd.underlying12
  a12 := Tryd.isAgg12
  z12 := Tryd.sizeOf12
  v12 := Tryd.zeroValue12
  t46 := Tryd.underlying150
  a46 := Tryd.isAgg150
  z46 := Tryd.sizeOf150
  v46 := Tryd.zeroValue150
  t53 := Tryd.underlying169
  a53 := Tryd.isAgg169
  z53 := Tryd.sizeOf169
  v53 := Tryd.zeroValue169
  t119 := Tryd.underlying160
  a119 := Tryd.isAgg160
  z119 := Tryd.sizeOf160
  t138 := Tryd.underlying162
  a138 := Tryd.isAgg162
  z138 := Tryd.sizeOf162
  v138 := Tryd.zeroValue162
  t139 := Tryd.underlying163
  a139 := Tryd.isAgg163
  z139 := Tryd.sizeOf163
  v139 := Tryd.zeroValue163
  g3 := by kernel_rfl
  g4 := by kernel_rfl }

theorem validD_encs : ∀ (rs : List Nat) (t : List UInt8), (∀ r ∈ rs, scal r) → validD (encs rs ++ t) = validD t
  | [], t, _ => rfl
  | r :: rs, t, h => by
    have hr := h r (List.mem_cons_self ..)
    have hp := enc_pos hr
    rw [encs, List.append_assoc, validD_step _ (by intro e; have := congrArg List.length e; rw [List.length_append] at this; simp only [List.length_nil] at this; omega), dec_enc hr, if_neg (by
      rintro ⟨h1, h2⟩
      simp only at h1 h2
      rw [enc_len hr, h1] at h2
      simp at h2)]
    rw [List.drop_left]
    exact validD_encs rs t (fun x hx => h x (List.mem_cons_of_mem _ hx))
theorem validD_brk (s : ByteArray) : validD s.data.toList = decide (brk s.data.toList = s.size) := by
  obtain ⟨t, h1, h2, h3⟩ := text_cases s.data.toList
  have hb := brk_eq h1 h2
  rw [← h3] at hb
  have hlen : s.data.toList.length = s.size := size_toList s
  have hl := congrArg List.length h3
  rw [List.length_append, hlen] at hl
  rw [hb]
  conv => lhs; rw [h3, validD_encs _ _ h1]
  rcases h2 with rfl | h2
  · simp only [List.length_nil] at hl
    rw [decide_eq_true (by omega)]; rfl
  · have hne : t ≠ [] := by rintro rfl; revert h2; decide
    rw [validD_step t hne, if_pos ⟨by rw [h2], by rw [h2]⟩]
    have : 0 < t.length := List.length_pos_iff.2 hne
    rw [decide_eq_false (by omega)]
theorem valid_any {I : List Nat} {a : Nat → Addr} (s : ByteArray) (w : World) (hS : Std I a w) (hs : s.size ≤ 281474976710656) :
    Calls Tryd.prog 95 #[.string s] w fun e w' => e = .returned (.bool (decide (brk s.data.toList = s.size))) ∧ Below w.heap.size w w' := by
  have := Any.utf8_ValidString Tryd.lays196 s w (by omega) hS.tabs
  rw [validD_brk] at this
  exact this
end Go.Proofs.YtkgflmbhkbeakaaDoor

/- What the reference of layer 3 says of pairs and lists: its numbers are the code's. -/
namespace Go.Proofs.YtkgflmbhkbeakaaDoor
open Go Go.RowKit Go.Lib
set_option linter.unusedVariables false

def Tiny (L : List A2) : Prop := ∀ q ∈ L, q.1.size ≤ 1048576 ∧ q.2.2.2.size ≤ 1048576
theorem tiny_small {L : List A2} (h : Tiny L) : Small L := fun q hq => by have := h q hq; unfold big; omega
theorem geq_run {P : Program} {t : TypeId} (x y : ByteArray) (b : Bool) (h : (!decide (kc x y < 0)) = b) (w : World) : (binOp .geq t (.string x) (.string y)).run P w = .ok (.bool b) w := by
  rw [← h, ← less_kc]
  simp [binOp, Op.stringOp]

set_option maxHeartbeats 1000000 in
theorem ref_pair {I : List Nat} {a : Nat → Addr} (q : A2) (w : World) (hS : Std I a w) (h1 : q.1.size ≤ 1048576) (h2 : q.2.2.2.size ≤ 1048576) :
    Calls Tryd.prog 55 #[atV q] w fun e w' => e = .returned (.int .i64 (pairE q)) ∧ Below w.heap.size w w' := by
  obtain ⟨k, x, n, t⟩ := q
  simp only at h1 h2
  have b0 := (Below.refl w.heap.size w).alloc (Nat.le_refl _) (.cells #[.string k, .int .i64 x, .int .i64 n, .string t] 48)
  by_cases hE : k.toList.isEmpty = true
  · have hz : k = ⟨#[]⟩ := emp_iff.1 hE
    subst hz
    rw [show pairE (⟨#[]⟩, x, n, t) = 6 by unfold pairE; rw [if_pos (Or.inl hE)]]
    clear hS hE
    go_enter Tryd.func55, Tryd.ntmps55
    go_wp2
    go_ret
    exact ⟨rfl, b0⟩
  · have hk : 0 < k.size := by
      rcases Nat.eq_zero_or_pos k.size with h | h
      · exact absurd (emp_iff.2 (ByteArray.ext (Array.eq_empty_of_size_eq_zero h))) hE
      · exact h
    have hkI : ¬ (k.size : Int) < 1 := by omega
    by_cases hL : 64 < k.size
    · rw [show pairE (k, x, n, t) = 6 by unfold pairE; rw [if_pos (Or.inr hL)]]
      have hLI : (64 : Int) < k.size := by omega
      clear hS hE
      go_enter Tryd.func55, Tryd.ntmps55
      go_wp2
      go_ret
      exact ⟨rfl, b0⟩
    · have hLI : ¬ (64 : Int) < k.size := by omega
      have hE2 : ¬ (k.toList.isEmpty = true ∨ 64 < k.size) := fun h => h.elim hE hL
      have cV := valid_any k _ (hS.below b0) (by omega)
      by_cases hB : brk k.data.toList = k.size
      · rw [show pairE (k, x, n, t) = chk x n t by unfold pairE; rw [if_neg hE2, if_neg (by simpa using hB)]]
        rw [decide_eq_true hB] at cV
        have c2 := fun W (hW : Below w.heap.size w W) => from_below hW (ref_chk x n t W (by omega))
        obtain ⟨E, hEE⟩ : ∃ E, chk x n t = E := ⟨_, rfl⟩
        rw [hEE] at c2 ⊢
        clear hS hE hB hEE hE2
        go_enter Tryd.func55, Tryd.ntmps55
        go_wp2_with (first
          | (go_at_call 95; refine cV.mono ?_; rintro e w1 ⟨rfl, b1⟩; have b := b0.trans (b1.mono b0.size); have d1 := b1.cell (p := ⟨w.heap.size, 1, none⟩) (by simp); have d2 := b1.cell (p := ⟨w.heap.size, 2, none⟩) (by simp); have d3 := b1.cell (p := ⟨w.heap.size, 3, none⟩) (by simp))
          | (go_at_call 96; refine (c2 _ b).mono ?_; rintro e w2 ⟨rfl, b2⟩))
        go_ret
        exact ⟨rfl, b2⟩
      · rw [show pairE (k, x, n, t) = 1 by unfold pairE; rw [if_neg hE2, if_pos hB]]
        rw [decide_eq_false hB] at cV
        clear hS hE hB hE2
        go_enter Tryd.func55, Tryd.ntmps55
        go_wp2_with (go_at_call 95; refine cV.mono ?_; rintro e w1 ⟨rfl, b1⟩)
        go_ret
        exact ⟨rfl, b0.trans (b1.mono b0.size)⟩

set_option maxHeartbeats 2000000 in
set_option maxRecDepth 100000 in
theorem ref_check {I : List Nat} {a : Nat → Addr} (v : Value) (L : List A2) (nulls : Bool) (w : World) (hS : Std I a w) (hv : RowA w v L)
    (hs : Tiny L) (hl : L.length ≤ 4611686018427387904) :
    Calls Tryd.prog 13 #[v, .bool nulls] w fun r w' => r = .returned (.int .i64 (listE nulls none L)) ∧ Below w.heap.size w w' := by
  obtain ⟨n, hn⟩ : ∃ n, L.length = n := ⟨_, rfl⟩
  obtain ⟨p, cap, rfl, hcap, hc⟩ := hv
  rw [hn] at hl hcap ⊢
  have HN : Hid (L.length = n) := hn
  have HC : Hid _ := hc
  have HS : Hid _ := hS
  have HZ : Hid _ := hs
  clear hc hS hs hn
  go_enter Tryd.func13, Tryd.ntmps13
  go_wp2
  go_loopw [10] (fun i wr => ∃ (k : Nat) (pv : Option ByteArray), k ≤ n ∧ i = .int .i64 k ∧ Below w.heap.size w wr ∧ Hid (listE nulls none L = listE nulls pv (L.drop k) ∧ (k = 0 → pv = none) ∧ ∀ j q, k = j + 1 → L[j]? = some q → pv = some q.1)) (fun i _ => n - (RowKit.intOf i).toNat)
  case atStart => exact ⟨0, none, Nat.zero_le _, rfl, Below.refl _ _, rfl, fun _ => rfl, fun j q h => by omega⟩
  case round =>
    obtain ⟨k, pv, hk, rfl, hbw, H⟩ := hrel
    by_cases hlt : k < n
    · have hltI : (k : Int) < n := by omega
      obtain ⟨q, hq⟩ : ∃ q, L[k]? = some q := ⟨_, List.getElem?_eq_getElem (by rw [HN.out]; exact hlt)⟩
      obtain ⟨b, off, rfl, hp⟩ := HC.out k q hq
      have hpw := hp.below hbw
      obtain ⟨c0, c1, c2, c3⟩ := hpw
      have hzs := HZ.out _ (List.mem_of_getElem? hq)
      have hd : L.drop k = q :: L.drop (k + 1) := by
        rw [List.drop_eq_getElem_cons (by rw [HN.out]; exact hlt)]
        rw [List.getElem?_eq_getElem (by rw [HN.out]; exact hlt)] at hq
        rw [Option.some.inj hq]
      obtain ⟨qk, qx, qn, qt⟩ := q
      simp only at c0 c1 c2 c3 hzs
      have hb1 : Below w.heap.size w (wr.alloc (.cells #[.string qk, .int .i64 qx, .int .i64 qn, .string qt] 48)) := hbw.alloc hbw.size _
      have cP := ref_pair (qk, qx, qn, qt) _ (HS.out.below hb1) hzs.1 hzs.2
      by_cases hE : pairE (qk, qx, qn, qt) = 0
      · rw [hE] at cP
        have hE1 : listE nulls none L = (if (!nulls && qx == 0) = true then 7 else if above pv qk = true then listE nulls (some qk) (L.drop (k + 1)) else 8) := by
          rw [H.out.1, hd, listE, if_pos hE]
        have HP : Hid ((k = 0 → pv = none) ∧ ∀ j q, k = j + 1 → L[j]? = some q → pv = some q.1) := H.out.2
        have HQ : Hid (L[k]? = some (qk, qx, qn, qt)) := hq
        have bp : ∀ W, Below (wr.alloc (.cells #[.string qk, .int .i64 qx, .int .i64 qn, .string qt] 48)).heap.size (wr.alloc (.cells #[.string qk, .int .i64 qx, .int .i64 qn, .string qt] 48)) W → PairAt W wr.heap.size 0 (qk, qx, qn, qt) := fun W hW => PairAt.below (w := wr.alloc (.cells #[.string qk, .int .i64 qx, .int .i64 qn, .string qt] 48)) ⟨by simp, by simp, by simp, by simp⟩ hW
        have HE1 : Hid _ := hE1
        clear hzs hq hd hE hE1 H hp
        by_cases hN : (!nulls && qx == 0) = true
        · have HR : Hid (listE nulls none L = 7) := by
            show _ = _
            rw [HE1.out, if_pos hN]
          simp only [Bool.and_eq_true, Bool.not_eq_true', beq_iff_eq] at hN
          obtain ⟨rfl, rfl⟩ := hN
          clear HE1 HP HQ
          go_wp2_with fail
          refine cP.mono ?_; rintro r w3 ⟨rfl, hb3⟩
          obtain ⟨e0, e1, e2, e3⟩ := bp _ hb3
          clear bp
          go_wp2
          go_ret
          rw [HR.out]
          exact ⟨rfl, hb1.trans (hb3.mono hb1.size)⟩
        · have HN2 : Hid (¬ (!nulls && qx == 0) = true) := hN
          have hcase : (qx == 0) = false ∨ ((qx == 0) = true ∧ nulls = true) := by
            cases hx : (qx == 0)
            · exact Or.inl rfl
            · cases hnl : nulls
              · rw [hx, hnl] at hN; exact absurd rfl hN
              · exact Or.inr ⟨rfl, rfl⟩
          clear hN
          rcases hcase with hx | ⟨hx, rfl⟩
          all_goals
            go_wp2_with fail
            refine cP.mono ?_; rintro r w3 ⟨rfl, hb3⟩
            obtain ⟨e0, e1, e2, e3⟩ := bp _ hb3
            have hb4 := hb1.trans (hb3.mono hb1.size)
            clear bp hb3 c0 c1 c2 c3
            go_wp2_with fail
            cases k with
            | zero =>
              have hg0 : decide ((0 : Int) < ((0 : Nat) : Int)) = false := by decide
              go_quiet (fail)
              go_wp2
              go_roundw
              case rel =>
                refine ⟨1, some qk, by omega, by go_num, by first | exact hb4 | exact below_drewN hb4 _, ?_, by omega, fun j q h1 h2 => ?_⟩
                · rw [HE1.out, if_neg HN2.out, if_pos (by rw [HP.out.1 rfl]; rfl)]
                · obtain rfl : j = 0 := by omega
                  rw [HQ.out] at h2
                  rw [← Option.some.inj h2]
              case measure => simp [RowKit.intOf]; omega
            | succ j =>
              obtain ⟨q', hq'⟩ : ∃ q', L[j]? = some q' := ⟨_, List.getElem?_eq_getElem (by rw [HN.out]; omega)⟩
              obtain ⟨b', off', hbo, hp'⟩ := HC.out j q' hq'
              simp only [Option.some.injEq, Addr.mk.injEq, and_true] at hbo
              obtain ⟨rfl, rfl⟩ := hbo
              have d0 := (hp'.below hb4).c0
              have hpv := HP.out.2 j q' rfl hq'
              have hg0 : (0 : Int) < ((j + 1 : Nat) : Int) := by omega
              have hg1 : (((j + 1 : Nat) : Int) - 1) = (j : Int) := by omega
              have hg2 : (j : Int) < n := by omega
              have hg3 : (0 : Int) ≤ j := by omega
              have hwr : IntKind.i64.wrap (j : Int) = (j : Int) := IntWalk.i64_in _ (by omega)
              obtain ⟨k', p'⟩ := q'
              simp only at d0 hpv
              by_cases hlt2 : kc k' qk < 0
              · have hless := geq_run (P := Tryd.prog) (t := 9) k' qk false (by simpa using hlt2)
                have HR : Hid (listE _ none L = listE _ (some qk) (L.drop (j + 1 + 1))) := HE1.out.trans (by rw [if_neg HN2.out, if_pos (by rw [hpv]; simpa [above] using hlt2)])
                have HP2 : Hid (∀ i q, j + 1 + 1 = i + 1 → L[i]? = some q → some qk = some q.1) := fun i q h1 h2 => by
                  obtain rfl : i = j + 1 := by omega
                  rw [HQ.out] at h2
                  rw [← Option.some.inj h2]
                clear hlt2 hpv hp' hq' HP HE1
                go_quiet (fail)
                go_wp2
                go_roundw
                case rel => exact ⟨j + 1 + 1, some qk, by omega, by go_num, by first | exact hb4 | exact below_drewN hb4 _, HR.out, fun h => by omega, HP2.out⟩
                case measure => simp [RowKit.intOf]; omega
              · have hless := geq_run (P := Tryd.prog) (t := 9) k' qk true (by simpa using hlt2)
                have HR : Hid (listE _ none L = 8) := HE1.out.trans (by rw [if_neg HN2.out, if_neg (by rw [hpv]; simpa [above] using hlt2)])
                clear hlt2 hpv hp' hq' HP HE1
                go_quiet (fail)
                go_wp2
                go_ret
                rw [HR.out]
                exact ⟨rfl, by first | exact hb4 | exact below_drewN hb4 _⟩
      · obtain ⟨e, he⟩ : ∃ e, pairE (qk, qx, qn, qt) = e + 1 := ⟨pairE (qk, qx, qn, qt) - 1, by omega⟩
        have HR : Hid (listE nulls none L = e + 1) := by
          show _ = _
          rw [H.out.1, hd, listE, if_neg hE, he]
        have hen : (((e + 1 : Nat) : Int) != 0) = true := by simp; omega
        rw [he] at cP
        clear hzs hq hd hE he H hp
        go_wp2_with fail
        refine cP.mono ?_; rintro r w3 ⟨rfl, hb3⟩
        go_wp2
        go_ret
        rw [HR.out]
        exact ⟨rfl, hb1.trans (hb3.mono hb1.size)⟩
    · have hltI : ¬ (k : Int) < n := by omega
      have HR : Hid (listE nulls none L = 0) := by
        show _ = _
        rw [H.out.1, List.drop_of_length_le (by rw [HN.out]; omega), listE]
      clear H
      go_wp2
      go_ret
      rw [HR.out]
      exact ⟨rfl, hbw⟩

theorem ref_both {I : List Nat} {a : Nat → Addr} (va vb : Value) (A B : List A2) (na nb : Bool) (w : World) (hS : Std I a w) (hA : RowA w va A) (hB : RowA w vb B) (sA : Tiny A) (sB : Tiny B) (hl : A.length + B.length ≤ 1048576) :
    Calls Tryd.prog 69 #[va, vb, .bool na, .bool nb] w fun r w' => r = .returned (.int .i64 (bothE A na B nb)) ∧ Below w.heap.size w w' := by
  have cA := ref_check va A na w hS hA sA (by omega)
  have cB := fun W (hW : Below w.heap.size w W) => from_below hW (ref_check vb B nb W (hS.below hW) (hB.below hW) sB (by omega))
  obtain ⟨pa, ca, rfl, _⟩ := hA.val
  obtain ⟨pb, cb, rfl, _⟩ := hB.val
  clear hA hB hS sA sB hl
  unfold bothE
  cases hE : listE na none A with
  | zero =>
    rw [hE] at cA
    rw [if_pos rfl]
    obtain ⟨R, hR⟩ : ∃ R, listE nb none B = R := ⟨_, rfl⟩
    rw [hR] at cB ⊢
    clear hR hE
    go_enter Tryd.func69, Tryd.ntmps69
    go_wp2_with fail
    refine cA.mono ?_; rintro r w2 ⟨rfl, hb2⟩
    have cB' := cB _ hb2
    clear cB cA
    go_wp2_with fail
    refine cB'.mono ?_; rintro r w3 ⟨rfl, hb3⟩
    go_wp2
    go_ret
    exact ⟨rfl, hb3⟩
  | succ e =>
    rw [hE] at cA
    rw [if_neg (by omega)]
    have hen : (((e + 1 : Nat) : Int) != 0) = true := by simp; omega
    clear cB hE
    go_enter Tryd.func69, Tryd.ntmps69
    go_wp2_with fail
    refine cA.mono ?_; rintro r w2 ⟨rfl, hb2⟩
    go_wp2
    go_ret
    exact ⟨rfl, hb2⟩
end Go.Proofs.YtkgflmbhkbeakaaDoor

/- What vellumref04.Refuse and Check answer: what an insert is refused with. -/
namespace Go.Proofs.YtkgflmbhkbeakaaDoor
open Go Go.RowKit Go.Lib
set_option linter.unusedVariables false

theorem Fit.tiny {o : Op5} (h : Fit o) : Tiny o.A := h.A

set_option maxHeartbeats 2000000 in
theorem ref_ins {I : List Nat} {a : Nat → Addr} (o : Op5) (s : Value) (w : World) (hS : Std I a w) (hR : RN w s o.A) (hF : Fit o) :
    Calls Tryd.prog 83 #[opV o s] w fun r w' => r = .returned (.int .i64 (insE o)) ∧ Below w.heap.size w w' := by
  have b0 := (Below.refl w.heap.size w).alloc (Nat.le_refl _) (.cells (opC o s) 63)
  have D0 := BoxO.new w o s
  have cU : Hid (∀ b, decide (brk o.t.data.toList = o.t.size) = b → ∀ W, Calls Tryd.prog 104 #[.string o.t] W fun r w' => r = .returned (.bool b) ∧ Below W.heap.size W w') := fun b hb W => ref_utf8 o.t W (by have := hF.t; omega) b hb
  have cV : Hid (∀ W, Calls Tryd.prog 96 #[pl o.v.1 o.v.2.1 o.v.2.2] W fun r w' => r = .returned (.int .i64 (chkP o.v)) ∧ Below W.heap.size W w') := fun W => ref_chk _ _ _ W (by have := hF.v; omega)
  have cA : Hid (∀ W, Below w.heap.size w W → Calls Tryd.prog 13 #[s, .bool false] W fun r w' => r = .returned (.int .i64 (listE false none o.A)) ∧ Below W.heap.size W w') := fun W hW => ref_check s o.A false W (hS.below hW) (hR.row.below hW) hF.tiny (by have := hF.n; omega)
  obtain ⟨E, hE⟩ : ∃ E, insE o = E := ⟨_, rfl⟩
  rw [hE]
  obtain ⟨V, hV⟩ : ∃ V, chkP o.v = V := ⟨_, rfl⟩
  obtain ⟨L, hL⟩ : ∃ L, listE false none o.A = L := ⟨_, rfl⟩
  rw [hV] at cV
  rw [hL] at cA
  have hE' : E = if fldE o ≠ 0 then fldE o else if brk o.t.data.toList ≠ o.t.size then 1 else if V ≠ 0 then V else L := by rw [← hE, ← hV, ← hL]; rfl
  have hz : o.v = z0 → V = 0 := fun h => by rw [← hV, h]; exact chk_z0
  obtain ⟨U, hU⟩ : ∃ U, decide (brk o.t.data.toList = o.t.size) = U := ⟨_, rfl⟩
  have hU' : (brk o.t.data.toList ≠ o.t.size) = (U = false) := by rw [← hU]; simp
  simp only [hU'] at hE'
  have cU : Hid (∀ W, Calls Tryd.prog 104 #[.string o.t] W fun r w' => r = .returned (.bool U) ∧ Below W.heap.size W w') := cU.out U hU
  clear hE hV hL hU hU' hF hS hR
  have HD : Hid (BoxO (w.alloc (.cells (opC o s) 63)) w.heap.size o s) := D0
  have HA : Hid (∀ W, Below (w.alloc (.cells (opC o s) 63)).heap.size (w.alloc (.cells (opC o s) 63)) W → Calls Tryd.prog 13 #[s, .bool false] W fun r w' => r = .returned (.int .i64 L) ∧ Below W.heap.size W w') := fun W hW => cA.out W (b0.trans (hW.mono b0.size))
  clear cA
  obtain ⟨k, t, ⟨x, n, u⟩, c, A⟩ := o
  obtain ⟨d0, d1, d2, d3, d4, d5, d6⟩ := D0
  simp only at d0 d1 d2 d3 d4 d5 d6 cU cV hz
  simp only [opC] at b0 d0 d1 d2 d3 d4 d5 d6 HD HA
  have gd := fun op x' y' w => guard_pl op x' y' (x, n, u) (0, 0, ⟨#[]⟩) w
  unfold fldE at hE'
  simp only at hE'
  have fin : ∀ w2, Below (w.alloc (.cells #[.int .i64 k, .string t, .int .i64 x, .int .i64 n, .string u, .int .i64 c, s] 63)).heap.size (w.alloc (.cells #[.int .i64 k, .string t, .int .i64 x, .int .i64 n, .string u, .int .i64 c, s] 63)) w2 → Below w.heap.size w w2 := fun w2 h => b0.trans (h.mono b0.size)
  by_cases k1 : k = 1
  · subst k1
    by_cases c0 : c = 0
    · subst c0
      cases he : t.toList.isEmpty with
      | true =>
        have hE2 : E = 9 := by rw [hE']; simp [he]
        subst hE2
        clear gd cU cV HA hz hE' HD fin
        go_enter Tryd.func83, Tryd.ntmps83
        go_wp2
        go_ret
        exact ⟨rfl, b0⟩
      | false =>
        by_cases hz0 : (x, n, u) = z0
        · have hne := neq_pl (x, n, u) (0, 0, ⟨#[]⟩) false (by rw [hz0]; show (!samP z0 z0) = false; rw [samP_self]; rfl)
          have hV0 := hz hz0
          cases U with
          | false =>
            have hE2 : E = 1 := by rw [hE']; simp [he, hz0]
            subst hE2
            clear hz hz0 hV0 cV HA hE' HD
            go_enter Tryd.func83, Tryd.ntmps83
            go_wp2_with fail
            refine (cU.out _).mono ?_; rintro r w2 ⟨rfl, h2⟩
            have b2 := fin _ h2
            go_wp2
            go_ret
            exact ⟨rfl, b2⟩
          | true =>
            have hE2 : E = L := by rw [hE', hV0]; simp [he, hz0]
            subst hE2
            clear hz hz0 hV0 cV hE'
            go_enter Tryd.func83, Tryd.ntmps83
            go_wp2_with fail
            refine (cU.out _).mono ?_; rintro r w2 ⟨rfl, h2⟩
            obtain ⟨p0, p1, p2, p3, p4, p5, p6⟩ := HD.out.below h2
            simp only at p0 p1 p2 p3 p4 p5 p6
            have c2 := HA.out _ h2
            have b2 := fin _ h2
            clear d0 d1 d2 d3 d4 d5 d6 h2
            go_wp2_with fail
            refine c2.mono ?_; rintro r w3 ⟨rfl, h3⟩
            go_wp2
            go_ret
            exact ⟨rfl, b2.trans (h3.mono b2.size)⟩
        · have hne := neq_pl (x, n, u) (0, 0, ⟨#[]⟩) true (by show (!samP (x, n, u) z0) = true; rw [samP_ne hz0]; rfl)
          have hE2 : E = 9 := by rw [hE']; simp [he, hz0]
          subst hE2
          clear hz hz0 cV cU HA hE' HD fin
          go_enter Tryd.func83, Tryd.ntmps83
          go_wp2
          go_ret
          exact ⟨rfl, b0⟩
    · have hc : (c == 0) = false := by simpa using c0
      have hE2 : E = 9 := by rw [hE']; simp [c0]
      subst hE2
      clear hz cV cU HA hE' HD fin c0
      go_enter Tryd.func83, Tryd.ntmps83
      go_wp2
      go_ret
      exact ⟨rfl, b0⟩
  · have hk1 : (k != 1) = true := by simpa using k1
    by_cases k2 : k = 2
    · subst k2
      clear hk1 k1
      by_cases c0 : c = 0
      · subst c0
        cases he : t.toList.isEmpty with
        | true =>
          have hE2 : E = 6 := by rw [hE']; simp [he]
          subst hE2
          clear gd cU cV HA hz hE' HD fin
          go_enter Tryd.func83, Tryd.ntmps83
          go_wp2
          go_ret
          exact ⟨rfl, b0⟩
        | false =>
          by_cases h64 : 64 < t.size
          · have h64I : (64 : Int) < (t.size : Int) := by omega
            have hE2 : E = 6 := by rw [hE']; simp [he, h64]
            subst hE2
            clear gd cU cV HA hz hE' HD fin
            go_enter Tryd.func83, Tryd.ntmps83
            go_wp2
            go_ret
            exact ⟨rfl, b0⟩
          · have h64I : ¬ (64 : Int) < (t.size : Int) := by omega
            cases U with
            | false =>
              have hE2 : E = 1 := by rw [hE']; simp [he, h64]
              subst hE2
              clear hz cV HA hE' HD gd
              go_enter Tryd.func83, Tryd.ntmps83
              go_wp2_with fail
              refine (cU.out _).mono ?_; rintro r w2 ⟨rfl, h2⟩
              have b2 := fin _ h2
              go_wp2
              go_ret
              exact ⟨rfl, b2⟩
            | true =>
              by_cases hV : V = 0
              · have hE2 : E = L := by rw [hE']; simp [he, h64, hV]
                subst hE2
                subst hV
                clear hz hE' gd
                go_enter Tryd.func83, Tryd.ntmps83
                go_wp2_with fail
                refine (cU.out _).mono ?_; rintro r w2 ⟨rfl, h2⟩
                obtain ⟨p0, p1, p2, p3, p4, p5, p6⟩ := HD.out.below h2
                simp only at p0 p1 p2 p3 p4 p5 p6
                clear d0 d1 d2 d3 d4 d5 d6
                go_wp2_with fail
                refine (cV.out _).mono ?_; rintro r w3 ⟨rfl, h3⟩
                have h23 := h2.trans (h3.mono h2.size)
                obtain ⟨q0, q1, q2, q3, q4, q5, q6⟩ := HD.out.below h23
                simp only at q0 q1 q2 q3 q4 q5 q6
                have c2 := HA.out _ h23
                have b3 := fin _ h23
                clear p0 p1 p2 p3 p4 p5 p6 h2 h3 h23
                go_wp2_with fail
                refine c2.mono ?_; rintro r w4 ⟨rfl, h4⟩
                go_wp2
                go_ret
                exact ⟨rfl, b3.trans (h4.mono b3.size)⟩
              · have hE2 : E = V := by rw [hE']; simp [he, h64, hV]
                subst hE2
                have hVI : ((E : Int) == 0) = false := by simp; omega
                clear hz hE' gd HA
                go_enter Tryd.func83, Tryd.ntmps83
                go_wp2_with fail
                refine (cU.out _).mono ?_; rintro r w2 ⟨rfl, h2⟩
                obtain ⟨p0, p1, p2, p3, p4, p5, p6⟩ := HD.out.below h2
                simp only at p0 p1 p2 p3 p4 p5 p6
                clear d0 d1 d2 d3 d4 d5 d6
                go_wp2_with fail
                refine (cV.out _).mono ?_; rintro r w3 ⟨rfl, h3⟩
                have b3 := fin _ (h2.trans (h3.mono h2.size))
                go_wp2
                go_ret
                exact ⟨rfl, b3⟩
      · have hc : (c == 0) = false := by simpa using c0
        have hE2 : E = 9 := by rw [hE']; simp [c0]
        subst hE2
        clear hz cV cU HA hE' HD fin c0 gd
        go_enter Tryd.func83, Tryd.ntmps83
        go_wp2
        go_ret
        exact ⟨rfl, b0⟩
    · have hk2 : (k != 2) = true := by simpa using k2
      have hE2 : E = 5 := by rw [hE']; simp [k1, k2]
      subst hE2
      clear hz cV cU HA hE' HD fin gd k1 k2
      go_enter Tryd.func83, Tryd.ntmps83
      go_wp2
      go_ret
      exact ⟨rfl, b0⟩
end Go.Proofs.YtkgflmbhkbeakaaDoor

/- What vellumref04.Length answers of inserts. -/
namespace Go.Proofs.YtkgflmbhkbeakaaDoor
open Go Go.RowKit Go.Lib
set_option linter.unusedVariables false

set_option maxHeartbeats 1000000 in
theorem refLen4_any (o : Op5) (s : Value) (w : World) (hO : Ins o) (ht : o.t.size ≤ 8388608) :
    Calls Tryd.prog 91 #[opV o s] w fun r w' => r = .returned (.int .i64 (lenO o)) ∧ Below w.heap.size w w' := by
  have b0 := (Below.refl w.heap.size w).alloc (Nat.le_refl _) (.cells (opC o s) 63)
  have c1 := fun W => ref_list o.t W (by omega)
  have hk := hO.kind
  unfold lenO
  obtain ⟨k, t, ⟨x, n, u⟩, c, A⟩ := o
  simp only at hk c1
  simp only [opC] at b0
  rcases hk with ⟨hk, hv⟩ | ⟨hk, hv⟩
  · clear hv
    subst hk
    rw [if_pos rfl]
    obtain ⟨n1, hn1⟩ : ∃ n, (scs t.data.toList).length = n := ⟨_, rfl⟩
    simp only [hn1] at c1 ⊢
    clear hn1
    go_enter Tryd.func91, Tryd.ntmps91
    go_wp2_with fail
    refine (c1 _).mono ?_; rintro r w2 ⟨v, rfl, _, ⟨g, cap, rfl⟩, hb2⟩
    have b2 := b0.trans (hb2.mono b0.size)
    go_wp2
    go_ret
    exact ⟨rfl, b2⟩
  · clear hv
    subst hk
    rw [if_neg (by show ¬ (2 : Int) = 1; decide)]
    go_enter Tryd.func91, Tryd.ntmps91
    go_wp2
    go_ret
    exact ⟨rfl, b0⟩
end Go.Proofs.YtkgflmbhkbeakaaDoor

/- The document's answers for ops: empty, Check, Length, apart. -/
namespace Go.Proofs.YtkgflmbhkbeakaaDoor
open Go Go.RowKit Go.Lib
set_option linter.unusedVariables false

/-- Are the fields empty that a kind doesn't have? -/
def emptyB (o : Op5) : Bool :=
  if o.k = 1 then o.c == 0 && decide (o.v = z0)
  else if o.k = 2 then o.c == 0
  else if o.k = 3 then o.t.toList.isEmpty && decide (o.v = z0)
  else if o.k = 4 then o.t.toList.isEmpty && decide (o.v = z0) && o.A.isEmpty
  else false
theorem opE_ref (o : Op5) : opE o = if emptyB o = false then 9 else if o.k = 1 ∨ o.k = 2 then insE o else if o.c < 1 then 9 else if 1099511627776 < o.c then 11 else if o.k = 3 then listE true none o.A else 0 := by
  unfold opE emptyB cntE
  by_cases k1 : o.k = 1
  · rw [if_pos (Or.inl k1), if_pos k1, if_pos (Or.inl k1)]
    by_cases hb : (o.c == 0 && decide (o.v = z0)) = false
    · rw [if_pos hb]
      have : fldE o = 9 := by
        unfold fldE
        rw [if_neg (fun h => h.1 k1), if_pos]
        by_cases hc : o.c = 0
        · by_cases hv : o.v = z0
          · simp [hc, hv] at hb
          · exact Or.inr ⟨k1, Or.inr hv⟩
        · exact Or.inl hc
      unfold insE
      rw [if_pos (by omega), this]
    · rw [if_neg hb]
  · by_cases k2 : o.k = 2
    · rw [if_pos (Or.inr k2), if_neg k1, if_pos k2, if_pos (Or.inr k2)]
      by_cases hb : (o.c == 0) = false
      · rw [if_pos hb]
        have : fldE o = 9 := by
          unfold fldE
          rw [if_neg (fun h => h.2 k2), if_pos]
          exact Or.inl (by simpa using hb)
        unfold insE
        rw [if_pos (by omega), this]
      · rw [if_neg hb]
    · have h12 : ¬ (o.k = 1 ∨ o.k = 2) := by omega
      rw [if_neg h12, if_neg k1, if_neg k2, if_neg h12]
      by_cases k3 : o.k = 3
      · rw [if_pos k3, if_pos k3, if_pos k3]
        cases ht : o.t.toList.isEmpty <;> by_cases hv : o.v = z0 <;> by_cases h1 : o.c < 1 <;> by_cases h2 : 1099511627776 < o.c <;> simp [hv, h1, h2]
      · rw [if_neg k3, if_neg k3, if_neg k3]
        by_cases k4 : o.k = 4
        · rw [if_pos k4, if_pos k4]
          cases ht : o.t.toList.isEmpty <;> by_cases hv : o.v = z0 <;> cases hA : o.A <;> by_cases h1 : o.c < 1 <;> by_cases h2 : 1099511627776 < o.c <;> simp [hv, h1, h2]
        · rw [if_neg k4, if_neg k4, if_pos rfl]

set_option maxHeartbeats 2000000 in
theorem refEmpty_any (o : Op5) (s : Value) (w : World) (hR : RowA w s o.A) :
    Calls Tryd.prog 82 #[opV o s] w fun r w' => r = .returned (.bool (emptyB o)) ∧ Below w.heap.size w w' := by
  have b0 := (Below.refl w.heap.size w).alloc (Nat.le_refl _) (.cells (opC o s) 63)
  obtain ⟨p, cc, rfl, _⟩ := hR.val
  clear hR
  obtain ⟨n9, hn9⟩ : ∃ m, o.A.length = m := ⟨_, rfl⟩
  have hAe : o.A.isEmpty = decide (n9 = 0) := by
    cases h : o.A with
    | nil => rw [h] at hn9; simp only [List.length_nil] at hn9; subst hn9; rfl
    | cons x r => rw [h] at hn9; simp only [List.length_cons] at hn9; rw [decide_eq_false (by omega)]; rfl
  have hnz : ((n9 : Int) == 0) = decide (n9 = 0) := by rw [Bool.eq_iff_iff]; simp
  rw [hn9] at b0 ⊢
  unfold emptyB
  rw [hAe]
  clear hAe hn9
  obtain ⟨k, t, ⟨x, n, u⟩, c, A⟩ := o
  simp only [opC] at b0 ⊢
  have gd := fun op x' y' w => guard_pl op x' y' (x, n, u) (0, 0, ⟨#[]⟩) w
  obtain ⟨bv, hbv⟩ : ∃ b, decide (((x, n, u) : P3) = z0) = b := ⟨_, rfl⟩
  have hne := eql_pl (x, n, u) (0, 0, ⟨#[]⟩) bv (by
    rw [← hbv]
    by_cases h : ((x, n, u) : P3) = z0
    · rw [decide_eq_true h, h]; exact samP_self _
    · rw [decide_eq_false h]; exact samP_ne h)
  rw [hbv]
  clear hbv
  by_cases k1 : k = 1
  · subst k1
    rw [if_pos rfl]
    clear hnz
    cases hc : (c == 0) with
    | false =>
      go_enter Tryd.func82, Tryd.ntmps82
      go_wp2
      go_ret
      exact ⟨rfl, b0⟩
    | true =>
      go_enter Tryd.func82, Tryd.ntmps82
      go_wp2
      go_ret
      exact ⟨rfl, b0⟩
  · have e1 : (k == 1) = false := by simpa using k1
    rw [if_neg k1]
    by_cases k2 : k = 2
    · subst k2
      rw [if_pos rfl]
      clear hnz hne gd
      go_enter Tryd.func82, Tryd.ntmps82
      go_wp2
      go_ret
      exact ⟨rfl, b0⟩
    · have e2 : (k == 2) = false := by simpa using k2
      rw [if_neg k2]
      by_cases k3 : k = 3
      · subst k3
        rw [if_pos rfl]
        clear hnz e1 e2
        cases ht : t.toList.isEmpty with
        | false =>
          go_enter Tryd.func82, Tryd.ntmps82
          go_wp2
          go_ret
          exact ⟨rfl, b0⟩
        | true =>
          go_enter Tryd.func82, Tryd.ntmps82
          go_wp2
          go_ret
          exact ⟨rfl, b0⟩
      · have e3 : (k == 3) = false := by simpa using k3
        rw [if_neg k3]
        by_cases k4 : k = 4
        · subst k4
          rw [if_pos rfl]
          clear e1 e2 e3
          cases ht : t.toList.isEmpty with
          | false =>
            go_enter Tryd.func82, Tryd.ntmps82
            go_wp2
            go_ret
            exact ⟨rfl, b0⟩
          | true =>
            cases bv with
            | false =>
              go_enter Tryd.func82, Tryd.ntmps82
              go_wp2
              go_ret
              exact ⟨rfl, b0⟩
            | true =>
              go_enter Tryd.func82, Tryd.ntmps82
              go_wp2
              go_ret
              exact ⟨rfl, b0⟩
        · have e4 : (k == 4) = false := by simpa using k4
          rw [if_neg k4]
          clear hnz hne gd
          go_enter Tryd.func82, Tryd.ntmps82
          go_wp2
          go_ret
          exact ⟨rfl, b0⟩

set_option maxHeartbeats 2000000 in
theorem refCheckO_any {I : List Nat} {a : Nat → Addr} (o : Op5) (s : Value) (w : World) (hS : Std I a w) (hR : RN w s o.A) (hF : Fit o) :
    Calls Tryd.prog 39 #[opV o s] w fun r w' => r = .returned (.int .i64 (opE o)) ∧ Below w.heap.size w w' := by
  have b0 := (Below.refl w.heap.size w).alloc (Nat.le_refl _) (.cells (opC o s) 63)
  have D0 := BoxO.new w o s
  have c1 := refEmpty_any o s _ (hR.row.below b0)
  have cI : Hid (∀ W, Below (w.alloc (.cells (opC o s) 63)).heap.size (w.alloc (.cells (opC o s) 63)) W → Calls Tryd.prog 83 #[opV o s] W fun r w' => r = .returned (.int .i64 (insE o)) ∧ Below W.heap.size W w') := fun W hW => ref_ins o s W ((hS.below b0).below hW) ((hR.below b0).below hW) hF
  have cA : Hid (∀ W, Below (w.alloc (.cells (opC o s) 63)).heap.size (w.alloc (.cells (opC o s) 63)) W → Calls Tryd.prog 13 #[s, .bool true] W fun r w' => r = .returned (.int .i64 (listE true none o.A)) ∧ Below W.heap.size W w') := fun W hW => ref_check s o.A true W ((hS.below b0).below hW) ((hR.row.below b0).below hW) hF.tiny (by have := hF.n; omega)
  have hE := opE_ref o
  obtain ⟨E, hEE⟩ : ∃ E, opE o = E := ⟨_, rfl⟩
  obtain ⟨i9, hi9⟩ : ∃ i, insE o = i := ⟨_, rfl⟩
  obtain ⟨l9, hl9⟩ : ∃ l, listE true none o.A = l := ⟨_, rfl⟩
  obtain ⟨eb, heb⟩ : ∃ l, emptyB o = l := ⟨_, rfl⟩
  rw [hEE, hi9, hl9, heb] at hE
  rw [hEE]
  rw [hi9] at cI
  rw [hl9] at cA
  rw [heb] at c1
  clear hS hR hF hEE hi9 hl9 heb
  have HD : Hid (BoxO (w.alloc (.cells (opC o s) 63)) w.heap.size o s) := D0
  obtain ⟨k, t, ⟨x, n, u⟩, c, A⟩ := o
  simp only [opC] at b0 c1 cI cA HD hE
  clear D0
  cases eb with
  | false =>
    rw [if_pos rfl] at hE
    subst hE
    clear cI cA HD
    go_enter Tryd.func39, Tryd.ntmps39
    go_wp2_with fail
    refine c1.mono ?_; rintro r w2 ⟨rfl, hb2⟩
    have b2 := b0.trans (hb2.mono b0.size)
    clear c1 b0 hb2
    go_wp2
    go_ret
    exact ⟨rfl, b2⟩
  | true =>
    rw [if_neg (by simp)] at hE
    by_cases k1 : k = 1
    · rw [if_pos (Or.inl k1)] at hE
      subst hE k1
      go_enter Tryd.func39, Tryd.ntmps39
      go_wp2_with fail
      refine c1.mono ?_; rintro r w2 ⟨rfl, hb2⟩
      have b2 := b0.trans (hb2.mono b0.size)
      obtain ⟨d0, d1, d2, d3, d4, d5, d6⟩ := HD.out.below hb2
      simp only at d0 d1 d2 d3 d4 d5 d6
      have c2 := cI.out _ hb2
      clear c1 b0 hb2
      go_wp2_with fail
      refine c2.mono ?_; rintro r w3 ⟨rfl, hb3⟩
      have b3 := b2.trans (hb3.mono b2.size)
      clear c2 b2 hb3
      go_wp2
      go_ret
      exact ⟨rfl, b3⟩
    · have e1 : (k == 1) = false := by simpa using k1
      by_cases k2 : k = 2
      · rw [if_pos (Or.inr k2)] at hE
        subst hE k2
        clear k1 e1
        go_enter Tryd.func39, Tryd.ntmps39
        go_wp2_with fail
        refine c1.mono ?_; rintro r w2 ⟨rfl, hb2⟩
        have b2 := b0.trans (hb2.mono b0.size)
        obtain ⟨d0, d1, d2, d3, d4, d5, d6⟩ := HD.out.below hb2
        simp only at d0 d1 d2 d3 d4 d5 d6
        have c2 := cI.out _ hb2
        clear c1 b0 hb2
        go_wp2_with fail
        refine c2.mono ?_; rintro r w3 ⟨rfl, hb3⟩
        have b3 := b2.trans (hb3.mono b2.size)
        clear c2 b2 hb3
        go_wp2
        go_ret
        exact ⟨rfl, b3⟩
      · have e2 : (k == 2) = false := by simpa using k2
        rw [if_neg (by omega)] at hE
        by_cases h1 : c < 1
        · rw [if_pos h1] at hE
          subst hE
          clear cI cA
          go_enter Tryd.func39, Tryd.ntmps39
          go_wp2_with fail
          refine c1.mono ?_; rintro r w2 ⟨rfl, hb2⟩
          have b2 := b0.trans (hb2.mono b0.size)
          obtain ⟨d0, d1, d2, d3, d4, d5, d6⟩ := HD.out.below hb2
          simp only at d0 d1 d2 d3 d4 d5 d6
          clear c1 b0 hb2
          go_wp2
          go_ret
          exact ⟨rfl, b2⟩
        · rw [if_neg h1] at hE
          by_cases h2 : 1099511627776 < c
          · rw [if_pos h2] at hE
            subst hE
            clear cI cA
            go_enter Tryd.func39, Tryd.ntmps39
            go_wp2_with fail
            refine c1.mono ?_; rintro r w2 ⟨rfl, hb2⟩
            have b2 := b0.trans (hb2.mono b0.size)
            obtain ⟨d0, d1, d2, d3, d4, d5, d6⟩ := HD.out.below hb2
            simp only at d0 d1 d2 d3 d4 d5 d6
            clear c1 b0 hb2
            go_wp2
            go_ret
            exact ⟨rfl, b2⟩
          · rw [if_neg h2] at hE
            by_cases k3 : k = 3
            · rw [if_pos k3] at hE
              subst hE k3
              clear cI k1 k2 e1 e2
              go_enter Tryd.func39, Tryd.ntmps39
              go_wp2_with fail
              refine c1.mono ?_; rintro r w2 ⟨rfl, hb2⟩
              have b2 := b0.trans (hb2.mono b0.size)
              obtain ⟨d0, d1, d2, d3, d4, d5, d6⟩ := HD.out.below hb2
              simp only at d0 d1 d2 d3 d4 d5 d6
              have c2 := cA.out _ hb2
              clear c1 b0 hb2
              go_wp2_with fail
              refine c2.mono ?_; rintro r w3 ⟨rfl, hb3⟩
              have b3 := b2.trans (hb3.mono b2.size)
              clear c2 b2 hb3
              go_wp2
              go_ret
              exact ⟨rfl, b3⟩
            · have e3 : (k == 3) = false := by simpa using k3
              rw [if_neg k3] at hE
              subst hE
              clear cI cA
              go_enter Tryd.func39, Tryd.ntmps39
              go_wp2_with fail
              refine c1.mono ?_; rintro r w2 ⟨rfl, hb2⟩
              have b2 := b0.trans (hb2.mono b0.size)
              obtain ⟨d0, d1, d2, d3, d4, d5, d6⟩ := HD.out.below hb2
              simp only at d0 d1 d2 d3 d4 d5 d6
              clear c1 b0 hb2
              go_wp2
              go_ret
              exact ⟨rfl, b2⟩
set_option maxHeartbeats 1000000 in
theorem refLenO_any (o : Op5) (s : Value) (w : World) (hg : opE o = 0) (hF : Fit o) :
    Calls Tryd.prog 50 #[opV o s] w fun r w' => r = .returned (.int .i64 (len5 o)) ∧ Below w.heap.size w w' := by
  have b0 := (Below.refl w.heap.size w).alloc (Nat.le_refl _) (.cells (opC o s) 63)
  have cI : o.k = 1 ∨ o.k = 2 → Calls Tryd.prog 91 #[opV o s] (w.alloc (.cells (opC o s) 63)) fun r w' => r = .returned (.int .i64 (lenO o)) ∧ Below (w.alloc (.cells (opC o s) 63)).heap.size (w.alloc (.cells (opC o s) 63)) w' := fun hk => by
    rcases op_good hg with ⟨hi, _⟩ | ⟨_, _, h3⟩ | ⟨_, _, h4⟩
    · exact refLen4_any o s _ hi hF.t
    · omega
    · omega
  unfold len5
  obtain ⟨L, hL⟩ : ∃ L : Int, (lenO o : Int) = L := ⟨_, rfl⟩
  rw [hL] at cI ⊢
  clear hg hF hL
  obtain ⟨k, t, ⟨x, n, u⟩, c, A⟩ := o
  simp only [opC] at b0 cI ⊢
  by_cases k1 : k = 1
  · rw [if_pos (Or.inl k1)]
    have c1 := cI (Or.inl k1)
    subst k1
    clear cI
    go_enter Tryd.func50, Tryd.ntmps50
    go_wp2_with fail
    refine c1.mono ?_; rintro r w2 ⟨rfl, hb2⟩
    have b2 := b0.trans (hb2.mono b0.size)
    clear c1 b0 hb2
    go_wp2
    go_ret
    exact ⟨rfl, b2⟩
  · have e1 : (k == 1) = false := by simpa using k1
    by_cases k2 : k = 2
    · rw [if_pos (Or.inr k2)]
      have c1 := cI (Or.inr k2)
      subst k2
      clear cI
      go_enter Tryd.func50, Tryd.ntmps50
      go_wp2_with fail
      refine c1.mono ?_; rintro r w2 ⟨rfl, hb2⟩
      have b2 := b0.trans (hb2.mono b0.size)
      clear c1 b0 hb2
      go_wp2
      go_ret
      exact ⟨rfl, b2⟩
    · have e2 : (k == 2) = false := by simpa using k2
      rw [if_neg (by omega)]
      clear cI
      go_enter Tryd.func50, Tryd.ntmps50
      go_wp2
      go_ret
      exact ⟨rfl, b0⟩
set_option maxHeartbeats 1000000 in
theorem refApart_any (o o' : Op5) (s s' : Value) (w : World) (hA : RowA w s o.A) (hB : RowA w s' o'.A) (hl : o.A.length ≤ 4194304) (hl2 : o'.A.length ≤ 4194304) :
    Calls Tryd.prog 87 #[opV o s, opV o' s'] w fun r w' => r = .returned (.bool (apartB o o')) ∧ Below w.heap.size w w' := by
  have b0 := ((Below.refl w.heap.size w).alloc (Nat.le_refl _) (.cells (opC o s) 63)).alloc (by simp) (.cells (opC o' s') 63)
  have cS := from_below b0 (sameAttrs_any s s' o.A o'.A _ (hA.below b0) (hB.below b0) (by omega) (by omega))
  obtain ⟨pa, ca, rfl, _⟩ := hA.val
  obtain ⟨pb, cb, rfl, _⟩ := hB.val
  unfold apartB
  obtain ⟨q, hq⟩ : ∃ q, decide (o.A = o'.A) = q := ⟨_, rfl⟩
  rw [hq] at cS ⊢
  obtain ⟨k, t, ⟨x, n, u⟩, c, A⟩ := o
  obtain ⟨k', t', ⟨x', n', u'⟩, c', A'⟩ := o'
  simp only [opC] at b0 cS hq ⊢
  clear hA hB hl hl2 hq
  by_cases k4 : k = 4
  · subst k4
    rw [if_pos rfl]
    clear cS
    go_enter Tryd.func87, Tryd.ntmps87
    go_wp2
    go_ret
    exact ⟨rfl, b0⟩
  · have e4 : (k == 4) = false := by simpa using k4
    rw [if_neg k4]
    by_cases hkk : k = k'
    · subst hkk
      by_cases k2 : k = 2
      · subst k2
        rw [if_pos (Or.inr rfl)]
        clear cS
        go_enter Tryd.func87, Tryd.ntmps87
        go_wp2
        go_ret
        exact ⟨rfl, b0⟩
      · have e2 : (k == 2) = false := by simpa using k2
        rw [if_neg (by simp [k2])]
        go_enter Tryd.func87, Tryd.ntmps87
        go_wp2_with fail
        refine cS.mono ?_; rintro r w2 ⟨rfl, hb2⟩
        go_wp2
        go_ret
        exact ⟨rfl, hb2⟩
    · have e5 : (k != k') = true := by simpa using hkk
      rw [if_pos (Or.inl hkk)]
      clear cS
      go_enter Tryd.func87, Tryd.ntmps87
      go_wp2
      go_ret
      exact ⟨rfl, b0⟩
end Go.Proofs.YtkgflmbhkbeakaaDoor

/- The document's answers for lists of operations: Bad, Lengths, Canonical. -/
namespace Go.Proofs.YtkgflmbhkbeakaaDoor
open Go Go.RowKit Go.Lib
set_option linter.unusedVariables false

set_option maxHeartbeats 2000000 in
set_option maxRecDepth 100000 in
theorem refBad_any {I : List Nat} {a : Nat → Addr} (v : Value) (E : List Op5) (w : World) (hS : Std I a w) (hv : ReO w v E) (hF : FitL E) (hl : E.length ≤ 1048576) :
    Calls Tryd.prog 46 #[v] w fun r w' => r = .returned (.tuple #[.int .i64 (badP E).1, .int .i64 (badP E).2]) ∧ Below w.heap.size w w' := by
  obtain ⟨D0, hrow, hre⟩ := hv
  have hDE := forall2_len hre
  obtain ⟨n, hn⟩ : ∃ n, D0.length = n := ⟨_, rfl⟩
  obtain ⟨p, cap, rfl, hcap, hnz, hc⟩ := hrow
  have HC : Hid (∀ (j : Nat) (d : OV), D0[j]? = some d → ∃ b off, p = some ⟨b, off, none⟩ ∧ OpAt w b (off + j * 7) d) := hc
  have HN : Hid (D0.length = n ∧ E.length = n) := ⟨hn, by rw [← hDE, hn]⟩
  have hl : n ≤ 1048576 := by rw [← hn, hDE]; exact hl
  have HK : Hid (∀ (k : Nat) d, D0[k]? = some d → ∃ e, E[k]? = some e ∧ ∀ W, Below w.heap.size w W → Calls Tryd.prog 39 #[ovV d] W fun r w' => r = .returned (.int .i64 (opE e)) ∧ Below W.heap.size W w') := fun k d h1 => by
    obtain ⟨y, hy, r1⟩ := forall2_get hre k d h1
    have fy := hF y (List.mem_of_getElem? hy)
    refine ⟨y, hy, fun W hW => ?_⟩
    rw [opV_of r1]
    exact refCheckO_any y _ W (hS.below hW) (r1.2.2.2.2.below hW) fy
  rw [hn] at hcap ⊢
  clear hc hn hDE hre hnz hF hS
  go_enter Tryd.func46, Tryd.ntmps46
  go_wp2
  go_loopw [4, 5] (fun i _ wr => ∃ (k : Nat), k ≤ n ∧ i = .int .i64 k ∧ Hid (∀ x ∈ E.take k, opE x = 0) ∧ Below w.heap.size w wr) (fun i _ _ => n - (RowKit.intOf i).toNat)
  case atStart => exact ⟨0, Nat.zero_le _, rfl, fun x hx => by simp at hx, Below.refl _ _⟩
  case round =>
    obtain ⟨k, hk, rfl, HG, hbw⟩ := hrel
    by_cases hlt : k < n
    · have hltI : (k : Int) < n := by omega
      obtain ⟨d, hd⟩ : ∃ d, D0[k]? = some d := ⟨_, List.getElem?_eq_getElem (by rw [HN.out.1]; exact hlt)⟩
      obtain ⟨e, he, cc⟩ := HK.out k d hd
      obtain ⟨b, off, rfl, hp⟩ := HC.out k d hd
      obtain ⟨c0, c1, c2, c3, c4, c5, c6⟩ := hp.below hbw
      have c9 := cc _ hbw
      have HT : Hid (E.take (k + 1) = E.take k ++ [e] ∧ E[k]? = some e) := by refine ⟨?_, he⟩; rw [List.take_add_one, he]; rfl
      clear hp hd he cc
      obtain ⟨dk, dt, ⟨dx, dn, du⟩, dc, ds⟩ := d
      obtain ⟨dp, dl, dcap⟩ := ds
      simp only [slV] at c0 c1 c2 c3 c4 c5 c6
      simp only [ovV, ovC, slV] at c9
      cases hg : opE e with
      | zero =>
        rw [hg] at c9
        have hz : (((0 : Nat) : Int) != 0) = false := by decide
        have HG' : Hid (∀ x ∈ E.take (k + 1), opE x = 0) := fun x hx => by
          rw [HT.out.1, List.mem_append] at hx
          rcases hx with hx | hx
          · exact HG.out x hx
          · rw [List.mem_singleton.1 hx]; exact hg
        clear hg HG HT
        go_wp2_with fail
        refine c9.mono ?_; rintro r w5 ⟨rfl, hb5⟩
        have b5 := hbw.trans (hb5.mono hbw.size)
        clear c9 hb5 c0 c1 c2 c3 c4 c5 c6
        go_wp2
        go_roundw
        case rel => exact ⟨k + 1, by omega, by go_num, HG', b5⟩
        case measure => simp [RowKit.intOf]; omega
      | succ x =>
        have HB : Hid (badP E = (k, x + 1)) := by
          have := bad_at HT.out.2 HG.out (by omega)
          rw [hg] at this; exact this
        rw [hg] at c9
        obtain ⟨z, hz⟩ : ∃ z : Int, ((x + 1 : Nat) : Int) = z := ⟨_, rfl⟩
        have hz0 : (z != 0) = true := by rw [← hz, bne_iff_ne]; omega
        rw [hz] at c9
        have HZ : Hid (((x + 1 : Nat) : Int) = z) := hz
        clear hg HG HT hz
        go_wp2_with fail
        refine c9.mono ?_; rintro r w5 ⟨rfl, hb5⟩
        have b5 := hbw.trans (hb5.mono hbw.size)
        clear c9 hb5 c0 c1 c2 c3 c4 c5 c6
        go_wp2
        go_ret2
        exact ⟨by rw [HB.out]; simp only []; rw [HZ.out]; rfl, b5⟩
    · have hltI : ¬ (k : Int) < n := by omega
      have HB : Hid (badP E = (0, 0)) := bad_none (by have := HG.out; rwa [List.take_of_length_le (by rw [HN.out.2]; omega)] at this)
      go_wp2
      go_ret2
      exact ⟨by rw [HB.out]; rfl, hbw⟩

set_option maxHeartbeats 4000000 in
set_option maxRecDepth 100000 in
theorem refLens_any {I : List Nat} {a : Nat → Addr} (v : Value) (E : List Op5) (w : World) (hS : Std I a w) (hv : ReO w v E) (hF : FitL E) (hl : E.length ≤ 1048576) :
    Calls Tryd.prog 41 #[v] w fun r w' => r = .returned (.tuple #[.int .i64 (lensL E).1, .int .i64 (lensL E).2.1, .int .i64 (lensL E).2.2]) ∧ Below w.heap.size w w' := by
  have c1 := refBad_any v E w hS hv hF hl
  obtain ⟨D0, hrow, hre⟩ := hv
  have hDE := forall2_len hre
  obtain ⟨n, hn⟩ : ∃ n, D0.length = n := ⟨_, rfl⟩
  obtain ⟨p, cap, rfl, hcap, hnz, hc⟩ := hrow
  rw [hn] at hcap c1 ⊢
  unfold lensL
  cases hb : (badP E).2 with
  | succ x =>
    rw [if_pos (by omega)]
    obtain ⟨z, hz⟩ : ∃ z : Int, ((x + 1 : Nat) : Int) = z := ⟨_, rfl⟩
    have hz0 : (z != 0) = true := by rw [← hz, bne_iff_ne]; omega
    obtain ⟨i1, hi1⟩ : ∃ i : Int, ((badP E).1 : Int) = i := ⟨_, rfl⟩
    simp only []
    rw [hb, hz, hi1] at c1
    rw [hz]
    clear hc hn hDE hre hnz hF hS hb hz hi1 hl
    go_enter Tryd.func41, Tryd.ntmps41
    go_wp2_with fail
    refine c1.mono ?_; rintro r w2 ⟨rfl, hb2⟩
    clear c1
    go_wp2
    go_ret3
    exact ⟨rfl, hb2⟩
  | zero =>
    rw [if_neg (by simp)]
    have hg : ∀ o ∈ E, opE o = 0 := bad_zero.1 hb
    have HC : Hid (∀ (j : Nat) (d : OV), D0[j]? = some d → ∃ b off, p = some ⟨b, off, none⟩ ∧ OpAt w b (off + j * 7) d) := hc
    have HN : Hid (D0.length = n ∧ E.length = n) := ⟨hn, by rw [← hDE, hn]⟩
    have hl : n ≤ 1048576 := by rw [← hn, hDE]; exact hl
    have HK : Hid (∀ (k : Nat) d, D0[k]? = some d → ∃ e, E[k]? = some e ∧ d.1 = e.k ∧ opE e = 0 ∧ Fit e ∧ ∀ W, Below w.heap.size w W → Calls Tryd.prog 50 #[ovV d] W fun r w' => r = .returned (.int .i64 (len5 e)) ∧ Below W.heap.size W w') := fun k d h1 => by
      obtain ⟨y, hy, r1⟩ := forall2_get hre k d h1
      have fy := hF y (List.mem_of_getElem? hy)
      have gy := hg y (List.mem_of_getElem? hy)
      refine ⟨y, hy, r1.1, gy, fy, fun W hW => ?_⟩
      rw [opV_of r1]
      exact refLenO_any y _ W gy fy
    obtain ⟨b9, r9, e9, h9⟩ : ∃ b r e, sumL 0 0 E = (b, r, e) := ⟨_, _, _, rfl⟩
    rw [h9]
    have H9 : Hid (sumL 0 0 (E.drop 0) = (b9, r9, e9)) := by show _ = _; rw [List.drop_zero]; exact h9
    obtain ⟨i1, hi1⟩ : ∃ i : Int, ((badP E).1 : Int) = i := ⟨_, rfl⟩
    rw [hb, hi1] at c1
    have hz0 : (((0 : Nat) : Int) != 0) = false := by decide
    clear hc hn hDE hre hnz hF hS hb hi1 hg h9
    go_enter Tryd.func41, Tryd.ntmps41
    go_wp2_with fail
    refine c1.mono ?_; rintro r w2 ⟨rfl, hb2⟩
    clear c1
    go_wp2
    go_loopw [7, 8, 9, 10] (fun bs rs i _ wr => ∃ (k : Nat) (b r : Int), k ≤ n ∧ i = .int .i64 k ∧ bs = .int .i64 b ∧ rs = .int .i64 r ∧ 0 ≤ b ∧ b ≤ 1099511627776 ∧ 0 ≤ r ∧ r ≤ 1099511627776 ∧ Hid (sumL b r (E.drop k) = (b9, r9, e9)) ∧ Below w.heap.size w wr) (fun _ _ i _ _ => n - (RowKit.intOf i).toNat)
    case atStart => exact ⟨0, 0, 0, Nat.zero_le _, rfl, rfl, rfl, by omega, by omega, by omega, by omega, H9, hb2⟩
    case round =>
      clear H9 hb2
      obtain ⟨k, b, r, hk, rfl, rfl, rfl, h1, h2, h3, h4, HS, hbw⟩ := hrel
      by_cases hlt : k < n
      · have hltI : (k : Int) < n := by omega
        obtain ⟨d, hd⟩ : ∃ d, D0[k]? = some d := ⟨_, List.getElem?_eq_getElem (by rw [HN.out.1]; exact hlt)⟩
        obtain ⟨e, he, hdk, hge, hfe, cc⟩ := HK.out k d hd
        obtain ⟨b0, off, rfl, hp⟩ := HC.out k d hd
        have hpw := hp.below hbw
        obtain ⟨c0, c1, c2, c3, c4, c5, c6⟩ := hpw
        have c9 := cc _ hbw
        have HP : Hid (OpAt w b0 (off + k * 7) d) := hp
        have hL := len5_range hge hfe
        have hkk := kinds_of hge
        have hdr : E.drop k = e :: E.drop (k + 1) := by
          have hlt' : k < E.length := (List.getElem?_eq_some_iff.1 he).1
          rw [List.drop_eq_getElem_cons hlt']
          congr 1
          rw [List.getElem?_eq_getElem hlt'] at he
          exact Option.some.inj he
        have HS' := HS.out
        rw [hdr, sumL] at HS'
        unfold baseO resO at HS'
        obtain ⟨L, hLL⟩ : ∃ L, len5 e = L := ⟨_, rfl⟩
        rw [hLL] at c9 hL HS'
        obtain ⟨hL1, hL2⟩ := hL
        obtain ⟨dk, dt, ⟨dx, dn, du⟩, dc, ds⟩ := d
        obtain ⟨dp, dl, dcap⟩ := ds
        simp only at hdk
        rw [← hdk] at HS' hkk
        simp only [slV] at c0 c1 c2 c3 c4 c5 c6
        simp only [ovV, ovC, slV] at c9
        clear hp hd he cc hge hfe hdr hLL hdk HS
        rcases hkk with rfl | rfl | rfl | rfl
        all_goals first
          | rw [if_neg (show ¬ ((1 : Int) = 3 ∨ (1 : Int) = 4) by omega), if_neg (show ¬ ((1 : Int) = 4) by omega)] at HS'
          | rw [if_neg (show ¬ ((2 : Int) = 3 ∨ (2 : Int) = 4) by omega), if_neg (show ¬ ((2 : Int) = 4) by omega)] at HS'
          | rw [if_pos (show ((3 : Int) = 3 ∨ (3 : Int) = 4) by omega), if_neg (show ¬ ((3 : Int) = 4) by omega)] at HS'
          | rw [if_pos (show ((4 : Int) = 3 ∨ (4 : Int) = 4) by omega), if_pos (show ((4 : Int) = 4) by omega)] at HS'
        all_goals try rw [Int.add_zero] at HS'
        · -- a text
          have d1 : decide (1099511627776 < b) = false := decide_eq_false (by omega)
          by_cases hov : 1099511627776 < r + L
          · have d2 : decide (1099511627776 < r + L) = true := decide_eq_true hov
            rw [if_pos (Or.inr hov)] at HS'
            simp only [Prod.mk.injEq] at HS'
            obtain ⟨rfl, rfl, rfl⟩ := HS'
            go_wp2_with fail
            refine c9.mono ?_; rintro r1 w5 ⟨rfl, hb5⟩
            have b5 := hbw.trans (hb5.mono hbw.size)
            have q0 := (HP.out.below b5).c0
            clear c9 hb5 c0 c1 c2 c3 c4 c5 c6
            go_wp2
            go_ret3
            exact ⟨rfl, b5⟩
          · have d2 : decide (1099511627776 < r + L) = false := decide_eq_false hov
            rw [if_neg (by omega)] at HS'
            have HS2 : Hid _ := HS'
            clear HS'
            go_wp2_with fail
            refine c9.mono ?_; rintro r1 w5 ⟨rfl, hb5⟩
            have b5 := hbw.trans (hb5.mono hbw.size)
            have q0 := (HP.out.below b5).c0
            clear c9 hb5 c0 c1 c2 c3 c4 c5 c6
            go_wp2
            go_roundw
            case rel => exact ⟨k + 1, b, r + L, by omega, by go_num, rfl, rfl, by omega, by omega, by omega, by omega, HS2, b5⟩
            case measure => simp [RowKit.intOf]; omega
        · -- an embed
          have d1 : decide (1099511627776 < b) = false := decide_eq_false (by omega)
          by_cases hov : 1099511627776 < r + L
          · have d2 : decide (1099511627776 < r + L) = true := decide_eq_true hov
            rw [if_pos (Or.inr hov)] at HS'
            simp only [Prod.mk.injEq] at HS'
            obtain ⟨rfl, rfl, rfl⟩ := HS'
            go_wp2_with fail
            refine c9.mono ?_; rintro r1 w5 ⟨rfl, hb5⟩
            have b5 := hbw.trans (hb5.mono hbw.size)
            have q0 := (HP.out.below b5).c0
            clear c9 hb5 c0 c1 c2 c3 c4 c5 c6
            go_wp2
            go_ret3
            exact ⟨rfl, b5⟩
          · have d2 : decide (1099511627776 < r + L) = false := decide_eq_false hov
            rw [if_neg (by omega)] at HS'
            have HS2 : Hid _ := HS'
            clear HS'
            go_wp2_with fail
            refine c9.mono ?_; rintro r1 w5 ⟨rfl, hb5⟩
            have b5 := hbw.trans (hb5.mono hbw.size)
            have q0 := (HP.out.below b5).c0
            clear c9 hb5 c0 c1 c2 c3 c4 c5 c6
            go_wp2
            go_roundw
            case rel => exact ⟨k + 1, b, r + L, by omega, by go_num, rfl, rfl, by omega, by omega, by omega, by omega, HS2, b5⟩
            case measure => simp [RowKit.intOf]; omega
        · -- a retain
          by_cases hov1 : 1099511627776 < b + L
          · have d1 : decide (1099511627776 < b + L) = true := decide_eq_true hov1
            rw [if_pos (Or.inl hov1)] at HS'
            simp only [Prod.mk.injEq] at HS'
            obtain ⟨rfl, rfl, rfl⟩ := HS'
            go_wp2_with fail
            refine c9.mono ?_; rintro r1 w5 ⟨rfl, hb5⟩
            have b5 := hbw.trans (hb5.mono hbw.size)
            have q0 := (HP.out.below b5).c0
            clear c9 hb5 c0 c1 c2 c3 c4 c5 c6
            go_wp2
            go_ret3
            exact ⟨rfl, b5⟩
          · have d1 : decide (1099511627776 < b + L) = false := decide_eq_false hov1
            by_cases hov : 1099511627776 < r + L
            · have d2 : decide (1099511627776 < r + L) = true := decide_eq_true hov
              rw [if_pos (Or.inr hov)] at HS'
              simp only [Prod.mk.injEq] at HS'
              obtain ⟨rfl, rfl, rfl⟩ := HS'
              go_wp2_with fail
              refine c9.mono ?_; rintro r1 w5 ⟨rfl, hb5⟩
              have b5 := hbw.trans (hb5.mono hbw.size)
              have q0 := (HP.out.below b5).c0
              clear c9 hb5 c0 c1 c2 c3 c4 c5 c6
              go_wp2
              go_ret3
              exact ⟨rfl, b5⟩
            · have d2 : decide (1099511627776 < r + L) = false := decide_eq_false hov
              rw [if_neg (by omega)] at HS'
              have HS2 : Hid _ := HS'
              clear HS'
              go_wp2_with fail
              refine c9.mono ?_; rintro r1 w5 ⟨rfl, hb5⟩
              have b5 := hbw.trans (hb5.mono hbw.size)
              have q0 := (HP.out.below b5).c0
              clear c9 hb5 c0 c1 c2 c3 c4 c5 c6
              go_wp2
              go_roundw
              case rel => exact ⟨k + 1, b + L, r + L, by omega, by go_num, rfl, rfl, by omega, by omega, by omega, by omega, HS2, b5⟩
              case measure => simp [RowKit.intOf]; omega
        · -- a delete
          have d2 : decide (1099511627776 < r) = false := decide_eq_false (by omega)
          by_cases hov : 1099511627776 < b + L
          · have d1 : decide (1099511627776 < b + L) = true := decide_eq_true hov
            rw [if_pos (Or.inl hov)] at HS'
            simp only [Prod.mk.injEq] at HS'
            obtain ⟨rfl, rfl, rfl⟩ := HS'
            go_wp2_with fail
            refine c9.mono ?_; rintro r1 w5 ⟨rfl, hb5⟩
            have b5 := hbw.trans (hb5.mono hbw.size)
            have q0 := (HP.out.below b5).c0
            clear c9 hb5 c0 c1 c2 c3 c4 c5 c6
            go_wp2
            go_ret3
            exact ⟨rfl, b5⟩
          · have d1 : decide (1099511627776 < b + L) = false := decide_eq_false hov
            rw [if_neg (by omega)] at HS'
            have HS2 : Hid _ := HS'
            clear HS'
            go_wp2_with fail
            refine c9.mono ?_; rintro r1 w5 ⟨rfl, hb5⟩
            have b5 := hbw.trans (hb5.mono hbw.size)
            have q0 := (HP.out.below b5).c0
            clear c9 hb5 c0 c1 c2 c3 c4 c5 c6
            go_wp2
            go_roundw
            case rel => exact ⟨k + 1, b + L, r, by omega, by go_num, rfl, rfl, by omega, by omega, by omega, by omega, HS2, b5⟩
            case measure => simp [RowKit.intOf]; omega
      · have hltI : ¬ (k : Int) < n := by omega
        have HS' := HS.out
        rw [List.drop_eq_nil_of_le (by rw [HN.out.2]; omega), sumL] at HS'
        simp only [Prod.mk.injEq] at HS'
        obtain ⟨rfl, rfl, rfl⟩ := HS'
        clear HS
        go_wp2
        go_ret3
        exact ⟨rfl, hbw⟩
end Go.Proofs.YtkgflmbhkbeakaaDoor

/- The document's Canonical. -/
namespace Go.Proofs.YtkgflmbhkbeakaaDoor
open Go Go.RowKit Go.Lib
set_option linter.unusedVariables false

set_option maxHeartbeats 4000000 in
set_option maxRecDepth 100000 in
theorem refCanon_any {I : List Nat} {a : Nat → Addr} (v : Value) (E : List Op5) (w : World) (hS : Std I a w) (hv : ReO w v E) (hF : FitL E) (hl : E.length ≤ 1048576) :
    Calls Tryd.prog 43 #[v] w fun r w' => r = .returned (.bool (canonB E)) ∧ Below w.heap.size w w' := by
  have c1 := refLens_any v E w hS hv hF hl
  obtain ⟨D0, hrow, hre⟩ := hv
  have hDE := forall2_len hre
  obtain ⟨n, hn⟩ : ∃ n, D0.length = n := ⟨_, rfl⟩
  obtain ⟨p, cap, rfl, hcap, hnz, hc⟩ := hrow
  rw [hn] at hcap c1 ⊢
  obtain ⟨x9, hx9⟩ : ∃ x, lensL E = x := ⟨_, rfl⟩
  rw [hx9] at c1
  obtain ⟨b9, r9, e9⟩ := x9
  simp only at c1
  have HC : Hid (∀ (j : Nat) (d : OV), D0[j]? = some d → ∃ b off, p = some ⟨b, off, none⟩ ∧ OpAt w b (off + j * 7) d) := hc
  have HN : Hid (D0.length = n ∧ E.length = n) := ⟨hn, by rw [← hDE, hn]⟩
  have hl : n ≤ 1048576 := by rw [← hn, hDE]; exact hl
  have HK : Hid (∀ (k : Nat) d d', D0[k]? = some d → D0[k + 1]? = some d' → ∃ e e', E[k]? = some e ∧ E[k + 1]? = some e' ∧ ∀ W, Below w.heap.size w W → Calls Tryd.prog 87 #[ovV d, ovV d'] W fun r w' => r = .returned (.bool (apartB e e')) ∧ Below W.heap.size W w') := fun k d d' h1 h2 => by
    obtain ⟨y, hy, r1⟩ := forall2_get hre k d h1
    obtain ⟨y', hy', r2⟩ := forall2_get hre (k + 1) d' h2
    refine ⟨y, y', hy, hy', fun W hW => ?_⟩
    rw [opV_of r1, opV_of r2]
    have h3 := (hF y (List.mem_of_getElem? hy)).n
    have h4 := (hF y' (List.mem_of_getElem? hy')).n
    exact refApart_any y y' _ _ W (r1.2.2.2.2.below hW).row (r2.2.2.2.2.below hW).row (by omega) (by omega)
  have HZ : Hid (∀ (k : Nat) d, D0[k]? = some d → ∃ e, E[k]? = some e ∧ d.1 = e.k ∧ d.2.2.2.2.2.1 = e.A.length) := fun k d h1 => by
    obtain ⟨y, hy, r1⟩ := forall2_get hre k d h1
    obtain ⟨pp, cc, hvv, _⟩ := r1.2.2.2.2.row.val
    simp only [slV, Value.slice.injEq] at hvv
    exact ⟨y, hy, r1.1, hvv.2.1⟩
  have HX : Hid ((lensL E).2.2 = e9) := by show _ = _; rw [hx9]
  clear hc hn hDE hre hnz hF hS hx9
  cases e9 with
  | succ x =>
    have hcan : Hid (canonB E = false) := by
      show canonB E = false
      unfold canonB
      rw [decide_eq_false (fun h => by have := HX.out; omega)]; rfl
    obtain ⟨z, hz⟩ : ∃ z : Int, ((x + 1 : Nat) : Int) = z := ⟨_, rfl⟩
    have hz0 : (z != 0) = true := by rw [← hz, bne_iff_ne]; omega
    rw [hz] at c1
    clear HC HN HK HZ HX hz
    go_enter Tryd.func43, Tryd.ntmps43
    go_wp2_with fail
    refine c1.mono ?_; rintro r w2 ⟨rfl, hb2⟩
    clear c1
    go_wp2
    go_ret
    exact ⟨by rw [hcan.out]; rfl, hb2⟩
  | zero =>
    have hz0 : (((0 : Nat) : Int) != 0) = false := by decide
    go_enter Tryd.func43, Tryd.ntmps43
    go_wp2_with fail
    refine c1.mono ?_; rintro r w2 ⟨rfl, hb2⟩
    clear c1
    go_wp2
    go_loopw [6] (fun i wr => ∃ (k : Nat), (k ≤ n ∨ k = 1) ∧ 1 ≤ k ∧ i = .int .i64 k ∧ Hid (∀ j x y, j + 1 < k → E[j]? = some x → E[j + 1]? = some y → apartB x y = true) ∧ Below w.heap.size w wr) (fun i _ => n + 1 - (RowKit.intOf i).toNat)
    case atStart => exact ⟨1, Or.inr rfl, Nat.le_refl _, rfl, fun j x y h => by omega, hb2⟩
    case round =>
      clear hb2
      obtain ⟨k, hm, h1k, rfl, HCh, hbw⟩ := hrel
      by_cases hlt : k < n
      · have hltI : (k : Int) < n := by omega
        obtain ⟨m, hmk⟩ : ∃ m, k = m + 1 := ⟨k - 1, by omega⟩
        have HM : Hid (k = m + 1) := hmk
        obtain ⟨d, hd⟩ : ∃ q, D0[m]? = some q := ⟨_, List.getElem?_eq_getElem (by rw [HN.out.1]; omega)⟩
        obtain ⟨d', hd'⟩ : ∃ q, D0[k]? = some q := ⟨_, List.getElem?_eq_getElem (by rw [HN.out.1]; omega)⟩
        obtain ⟨e, e', he, he', cc⟩ := HK.out m d d' hd (by rw [← hmk]; exact hd')
        obtain ⟨b, off, rfl, hin⟩ := HC.out m d hd
        obtain ⟨b', off', hbo, hin'⟩ := HC.out k d' hd'
        simp only [Option.some.injEq, Addr.mk.injEq, and_true] at hbo
        obtain ⟨rfl, rfl⟩ := hbo
        obtain ⟨c0, c1, c2, c3, c4, c5, c6⟩ := hin.below hbw
        obtain ⟨d0, d1, d2, d3, d4, d5, d6⟩ := hin'.below hbw
        have HEE : Hid (E[m]? = some e ∧ E[m + 1]? = some e') := ⟨he, he'⟩
        clear hin hin' hd hd' he he'
        obtain ⟨f, t, ⟨x, z, u⟩, cc1, p, j, c⟩ := d
        obtain ⟨f', t', ⟨x', z', u'⟩, cc1', p', j', c'⟩ := d'
        simp only [slV] at c0 c1 c2 c3 c4 c5 c6 d0 d1 d2 d3 d4 d5 d6
        simp only [ovV, ovC, slV] at cc
        have HU : Hid (∀ w', Below wr.drew.heap.size wr.drew w' → (w'.cell? ⟨b, off + m * 7, none⟩ = some (.int .i64 f) ∧ w'.cell? ⟨b, off + m * 7 + 1, none⟩ = some (.string t) ∧ w'.cell? ⟨b, off + m * 7 + 2, none⟩ = some (.int .i64 x) ∧ w'.cell? ⟨b, off + m * 7 + 3, none⟩ = some (.int .i64 z) ∧ w'.cell? ⟨b, off + m * 7 + 4, none⟩ = some (.string u) ∧ w'.cell? ⟨b, off + m * 7 + 5, none⟩ = some (.int .i64 cc1) ∧ w'.cell? ⟨b, off + m * 7 + 6, none⟩ = some (.slice p j c) ∧ w'.cell? ⟨b, off + k * 7, none⟩ = some (.int .i64 f') ∧ w'.cell? ⟨b, off + k * 7 + 1, none⟩ = some (.string t') ∧ w'.cell? ⟨b, off + k * 7 + 2, none⟩ = some (.int .i64 x') ∧ w'.cell? ⟨b, off + k * 7 + 3, none⟩ = some (.int .i64 z') ∧ w'.cell? ⟨b, off + k * 7 + 4, none⟩ = some (.string u') ∧ w'.cell? ⟨b, off + k * 7 + 5, none⟩ = some (.int .i64 cc1') ∧ w'.cell? ⟨b, off + k * 7 + 6, none⟩ = some (.slice p' j' c'))) := fun w' hb => ⟨(hb.cell (lt_of_cell (w := wr.drew) c0)).trans c0, (hb.cell (lt_of_cell (w := wr.drew) c1)).trans c1, (hb.cell (lt_of_cell (w := wr.drew) c2)).trans c2, (hb.cell (lt_of_cell (w := wr.drew) c3)).trans c3, (hb.cell (lt_of_cell (w := wr.drew) c4)).trans c4, (hb.cell (lt_of_cell (w := wr.drew) c5)).trans c5, (hb.cell (lt_of_cell (w := wr.drew) c6)).trans c6, (hb.cell (lt_of_cell (w := wr.drew) d0)).trans d0, (hb.cell (lt_of_cell (w := wr.drew) d1)).trans d1, (hb.cell (lt_of_cell (w := wr.drew) d2)).trans d2, (hb.cell (lt_of_cell (w := wr.drew) d3)).trans d3, (hb.cell (lt_of_cell (w := wr.drew) d4)).trans d4, (hb.cell (lt_of_cell (w := wr.drew) d5)).trans d5, (hb.cell (lt_of_cell (w := wr.drew) d6)).trans d6⟩
        have hz0 : w.heap.size ≤ wr.drew.heap.size := hbw.size
        obtain ⟨q, hq⟩ : ∃ q, apartB e e' = q := ⟨_, rfl⟩
        rw [hq] at cc
        have HQ : Hid (apartB e e' = q) := hq
        have hk0 : (0 : Int) ≤ (k : Int) - 1 := by omega
        have hk1 : (k : Int) - 1 < (n : Int) := by omega
        have hk2 : ((k : Int) - 1).toNat = m := by omega
        have hk3 : IntKind.i64.wrap ((k : Int) - 1) = (k : Int) - 1 := by rw [IntKind.wrap_i64]; omega
        have hk4 : k ≤ 1048576 := by omega
        have hk5 : (1 : Int) ≤ (k : Int) := by omega
        have hk6 : k - 1 = m := by omega
        have hk7 : (0 : Int) ≤ (k : Int) := by omega
        clear hq hm hmk
        cases q with
        | true =>
          have HCh2 : Hid (∀ j x y, j + 1 < k + 1 → E[j]? = some x → E[j + 1]? = some y → apartB x y = true) := fun j x y hj hx hy => by
            by_cases hjm : j = m
            · subst hjm
              obtain rfl := Option.some.inj (hx.symm.trans HEE.out.1)
              obtain rfl := Option.some.inj (hy.symm.trans HEE.out.2)
              exact HQ.out
            · exact HCh.out j x y (by have := HM.out; omega) hx hy
          go_wp2_with fail
          go_region_held3 (fun w' => (w'.cell? ⟨b, off + m * 7, none⟩ = some (.int .i64 f) ∧ w'.cell? ⟨b, off + m * 7 + 1, none⟩ = some (.string t) ∧ w'.cell? ⟨b, off + m * 7 + 2, none⟩ = some (.int .i64 x) ∧ w'.cell? ⟨b, off + m * 7 + 3, none⟩ = some (.int .i64 z) ∧ w'.cell? ⟨b, off + m * 7 + 4, none⟩ = some (.string u) ∧ w'.cell? ⟨b, off + m * 7 + 5, none⟩ = some (.int .i64 cc1) ∧ w'.cell? ⟨b, off + m * 7 + 6, none⟩ = some (.slice p j c) ∧ w'.cell? ⟨b, off + k * 7, none⟩ = some (.int .i64 f') ∧ w'.cell? ⟨b, off + k * 7 + 1, none⟩ = some (.string t') ∧ w'.cell? ⟨b, off + k * 7 + 2, none⟩ = some (.int .i64 x') ∧ w'.cell? ⟨b, off + k * 7 + 3, none⟩ = some (.int .i64 z') ∧ w'.cell? ⟨b, off + k * 7 + 4, none⟩ = some (.string u') ∧ w'.cell? ⟨b, off + k * 7 + 5, none⟩ = some (.int .i64 cc1') ∧ w'.cell? ⟨b, off + k * 7 + 6, none⟩ = some (.slice p' j' c')) ∧ Below w.heap.size w w')
            (exact ⟨by first | (with_reducible assumption) | (simp [*]; done), by first | (with_reducible assumption) | exact hbw.drew⟩)
            (first | (go_at_call 87; refine (cc _ ?_).mono ?_; (· first | assumption | exact hbw.drew | (apply And.right; assumption)); rintro r w3 ⟨rfl, b3⟩; have b4 : Below w.heap.size w w3 := (hbw.drew).trans (b3.mono hz0); have mm := HU.out _ b3))
          clear cc mm b3
          go_wp2
          go_roundw
          case rel => exact ⟨k + 1, by omega, by omega, by go_num, HCh2, b4⟩
          case measure => simp [RowKit.intOf]; omega
        | false =>
          have hcan : Hid (canonB E = false) := by
            show canonB E = false
            cases h : chainB E with
            | true => have := chain_iff.1 h m e e' HEE.out.1 HEE.out.2; rw [HQ.out] at this; cases this
            | false => unfold canonB; rw [h]; simp
          go_wp2_with fail
          go_region_held3 (fun w' => (w'.cell? ⟨b, off + m * 7, none⟩ = some (.int .i64 f) ∧ w'.cell? ⟨b, off + m * 7 + 1, none⟩ = some (.string t) ∧ w'.cell? ⟨b, off + m * 7 + 2, none⟩ = some (.int .i64 x) ∧ w'.cell? ⟨b, off + m * 7 + 3, none⟩ = some (.int .i64 z) ∧ w'.cell? ⟨b, off + m * 7 + 4, none⟩ = some (.string u) ∧ w'.cell? ⟨b, off + m * 7 + 5, none⟩ = some (.int .i64 cc1) ∧ w'.cell? ⟨b, off + m * 7 + 6, none⟩ = some (.slice p j c) ∧ w'.cell? ⟨b, off + k * 7, none⟩ = some (.int .i64 f') ∧ w'.cell? ⟨b, off + k * 7 + 1, none⟩ = some (.string t') ∧ w'.cell? ⟨b, off + k * 7 + 2, none⟩ = some (.int .i64 x') ∧ w'.cell? ⟨b, off + k * 7 + 3, none⟩ = some (.int .i64 z') ∧ w'.cell? ⟨b, off + k * 7 + 4, none⟩ = some (.string u') ∧ w'.cell? ⟨b, off + k * 7 + 5, none⟩ = some (.int .i64 cc1') ∧ w'.cell? ⟨b, off + k * 7 + 6, none⟩ = some (.slice p' j' c')) ∧ Below w.heap.size w w')
            (exact ⟨by first | (with_reducible assumption) | (simp [*]; done), by first | (with_reducible assumption) | exact hbw.drew⟩)
            (first | (go_at_call 87; refine (cc _ ?_).mono ?_; (· first | assumption | exact hbw.drew | (apply And.right; assumption)); rintro r w3 ⟨rfl, b3⟩; have b4 : Below w.heap.size w w3 := (hbw.drew).trans (b3.mono hz0); have mm := HU.out _ b3))
          clear cc mm b3
          go_wp2
          go_ret
          exact ⟨by rw [hcan.out]; rfl, b4⟩
      · have hltI : ¬ (k : Int) < n := by omega
        have HC1 : Hid (chainB E = true) := chain_iff.2 fun j x y hx hy => HCh.out j x y (by
          have := (List.getElem?_eq_some_iff.1 hy).1; rw [HN.out.2] at this; omega) hx hy
        clear HCh
        cases n with
        | zero =>
          have hcan : Hid (canonB E = true) := by
            show canonB E = true
            have : E = [] := List.eq_nil_of_length_eq_zero HN.out.2
            unfold canonB
            rw [HC1.out, decide_eq_true HX.out, this]; rfl
          go_wp2
          go_ret
          exact ⟨by rw [hcan.out]; rfl, hbw⟩
        | succ l =>
          obtain ⟨d, hd⟩ : ∃ q, D0[l]? = some q := ⟨_, List.getElem?_eq_getElem (by rw [HN.out.1]; omega)⟩
          obtain ⟨e, he, hdk, hdl⟩ := HZ.out l d hd
          obtain ⟨b, off, rfl, hin⟩ := HC.out l d hd
          obtain ⟨c0, c1, c2, c3, c4, c5, c6⟩ := hin.below hbw
          have hcan : Hid (canonB E = !plainR e) := by
            show canonB E = _
            unfold canonB lastP
            rw [HC1.out, decide_eq_true HX.out, List.getLast?_eq_getElem?, HN.out.2]
            simp only [Nat.add_sub_cancel, he]
            rfl
          obtain ⟨f, t, ⟨x, z, u⟩, cc1, p, j, c⟩ := d
          simp only [slV] at c0 c1 c2 c3 c4 c5 c6
          simp only at hdk hdl
          have hpl : Hid (plainR e = (f == 3 && j == 0)) := by
            show plainR e = _
            unfold plainR
            rw [hdk, hdl]
            cases e.A <;> simp
          have hl0 : (((l : Int) + 1) == 0) = false := by simp; omega
          have hl1 : ((l : Int) + 1 - 1) = (l : Int) := by omega
          clear he hin hd hdk hdl hm hlt
          by_cases hf : f = 3
          · subst hf
            cases j with
            | zero =>
              go_wp2
              go_ret
              exact ⟨by rw [hcan.out, hpl.out]; rfl, hbw⟩
            | succ j =>
              have hj0 : decide ((0 : Int) < ((j + 1 : Nat) : Int)) = true := decide_eq_true (by omega)
              have hj2 : decide (0 < j + 1) = true := decide_eq_true (by omega)
              go_wp2
              go_ret
              exact ⟨by rw [hcan.out, hpl.out]; rfl, hbw⟩
          · have hf0 : (f != 3) = true := by simpa using hf
            have hf1 : (f == 3) = false := by simpa using hf
            clear hf
            go_wp2
            go_ret
            exact ⟨by rw [hcan.out, hpl.out, hf1]; rfl, hbw⟩
end Go.Proofs.YtkgflmbhkbeakaaDoor

/- Operations as new memory: appends of rows of operations; vellumlaw05.copied. -/
namespace Go.Proofs.YtkgflmbhkbeakaaDoor
open Go Go.RowKit Go.Lib
set_option linter.unusedVariables false

theorem cellsO_inv : ∀ (L : List OV) (j : Nat) (u : Value), (cellsO L)[j]? = some u → ∃ i d, L[i]? = some d ∧ ((j = i * 7 ∧ u = .int .i64 d.1) ∨ (j = i * 7 + 1 ∧ u = .string d.2.1) ∨ (j = i * 7 + 2 ∧ u = .int .i64 d.2.2.1.1) ∨ (j = i * 7 + 3 ∧ u = .int .i64 d.2.2.1.2.1) ∨ (j = i * 7 + 4 ∧ u = .string d.2.2.1.2.2) ∨ (j = i * 7 + 5 ∧ u = .int .i64 d.2.2.2.1) ∨ (j = i * 7 + 6 ∧ u = slV d.2.2.2.2))
  | [], j, u, h => by simp [cellsO] at h
  | p :: r, 0, u, h => ⟨0, p, rfl, Or.inl ⟨rfl, by simpa [cellsO] using h.symm⟩⟩
  | p :: r, 1, u, h => ⟨0, p, rfl, Or.inr (Or.inl ⟨rfl, by simpa [cellsO] using h.symm⟩)⟩
  | p :: r, 2, u, h => ⟨0, p, rfl, Or.inr (Or.inr (Or.inl ⟨rfl, by simpa [cellsO] using h.symm⟩))⟩
  | p :: r, 3, u, h => ⟨0, p, rfl, Or.inr (Or.inr (Or.inr (Or.inl ⟨rfl, by simpa [cellsO] using h.symm⟩)))⟩
  | p :: r, 4, u, h => ⟨0, p, rfl, Or.inr (Or.inr (Or.inr (Or.inr (Or.inl ⟨rfl, by simpa [cellsO] using h.symm⟩))))⟩
  | p :: r, 5, u, h => ⟨0, p, rfl, Or.inr (Or.inr (Or.inr (Or.inr (Or.inr (Or.inl ⟨rfl, by simpa [cellsO] using h.symm⟩)))))⟩
  | p :: r, 6, u, h => ⟨0, p, rfl, Or.inr (Or.inr (Or.inr (Or.inr (Or.inr (Or.inr ⟨rfl, by simpa [cellsO] using h.symm⟩)))))⟩
  | p :: r, j + 7, u, h => by
    obtain ⟨i, q, hq, hh⟩ := cellsO_inv r j u (by simpa [cellsO] using h)
    refine ⟨i + 1, q, by simpa using hq, ?_⟩
    rcases hh with ⟨h1, h2⟩ | ⟨h1, h2⟩ | ⟨h1, h2⟩ | ⟨h1, h2⟩ | ⟨h1, h2⟩ | ⟨h1, h2⟩ | ⟨h1, h2⟩
    · exact Or.inl ⟨by omega, h2⟩
    · exact Or.inr (Or.inl ⟨by omega, h2⟩)
    · exact Or.inr (Or.inr (Or.inl ⟨by omega, h2⟩))
    · exact Or.inr (Or.inr (Or.inr (Or.inl ⟨by omega, h2⟩)))
    · exact Or.inr (Or.inr (Or.inr (Or.inr (Or.inl ⟨by omega, h2⟩))))
    · exact Or.inr (Or.inr (Or.inr (Or.inr (Or.inr (Or.inl ⟨by omega, h2⟩)))))
    · exact Or.inr (Or.inr (Or.inr (Or.inr (Or.inr (Or.inr ⟨by omega, h2⟩)))))
/-- append(own, a row of operations ...). -/
theorem wpList_append_rowO {w : World} {ops : Array Oper} {rest : List Oper} {o : Oper} {a : Act} {Q : Exit → Act → World → Prop} (hgd : o.guard = none) (s x : Operand)
    (ho : o.op = .call { callee := .builtin .append, args := #[s, x], argTypes := #[59, 59] })
    (base : Nat) (v : Value) (L : List OV) (hs : a.eval s = v) (hown : OwnO w base v L)
    (u : Value) (M : List OV) (hx : a.eval x = u) (hM : RowO w u M)
    (h63 : L.length + M.length ≤ 33554432) (hbase : base ≤ w.heap.size)
    (h : ∀ v' w', OwnO w' base v' (L ++ M) → w.grownBy w' v.ownBlock → wpList Tryd.prog ops Q rest (a.put o.dst v') w') : wpList Tryd.prog ops Q (o :: rest) a w := by
  obtain ⟨i, z, hi, hz, hz1, hz2, hz3⟩ := infoOp
  obtain ⟨p, cap, rfl, hcap, hnz, hc⟩ := hM
  cases p with
  | none =>
    have hM0 : M = [] := List.eq_nil_of_length_eq_zero (by have := hnz rfl; omega)
    have hcap0 := hnz rfl
    subst hM0
    subst hcap0
    exact wpList_append_own_none hgd s x 59 ho base 63 i 7 Tryd.underlying59 hi v L.length (cellsO L) hs hown hx (h v w (by simpa using hown) ⟨rfl, rfl, rfl, Nat.le_refl _, fun _ _ _ => rfl⟩)
  | some ad =>
    refine wpList_append_own _ hgd s x _ ho base 63 i z 7 88 Tryd.underlying59 hi hz hz1 hz2 hz3 (by decide) v L.length (cellsO L) hs hown ad M.length cap (cellsO M) hx (cellsO_len M) (fun j y hj => ?_) (cellsO_one _) (by unfold maxLen; omega) (by omega) hbase (fun v' w' h1 h2 _ => h v' w' ?_ h2)
    · obtain ⟨i, d, hd, hh⟩ := cellsO_inv M j y hj
      obtain ⟨b, off, hp, h0, h1, h2, h3, h4, h5, h6⟩ := hc i d hd
      obtain rfl := Option.some.inj hp
      rw [Addr.add_lit]
      rcases hh with ⟨rfl, rfl⟩ | ⟨rfl, rfl⟩ | ⟨rfl, rfl⟩ | ⟨rfl, rfl⟩ | ⟨rfl, rfl⟩ | ⟨rfl, rfl⟩ | ⟨rfl, rfl⟩
      · exact h0
      · exact h1
      · exact h2
      · exact h3
      · exact h4
      · exact h5
      · exact h6
    · show w'.ownsRow _ _ _ _ _ _
      rw [cellsO_append, List.length_append]
      exact h1
/-- What operations in memory are, their lists the call's own. -/
def OwD (w : World) (B : Nat) (D : List OV) (E : List Op5) : Prop := All2 (fun (d : OV) (e : Op5) => d.1 = e.k ∧ d.2.1 = e.t ∧ d.2.2.1 = e.v ∧ d.2.2.2.1 = e.c ∧ OwnA w B (slV d.2.2.2.2) e.A) D E
theorem OwD.below {w w' : World} {B : Nat} {D : List OV} {E : List Op5} (h : OwD w B D E) (b : Below w.heap.size w w') : OwD w' B D E := All2.imp (fun d e h => ⟨h.1, h.2.1, h.2.2.1, h.2.2.2.1, owns_below h.2.2.2.2 b⟩) h
theorem OwD.keep {w w' : World} {B : Nat} {D : List OV} {E : List Op5} (h : OwD w B D E) (b : KeepA w w') : OwD w' B D E := All2.imp (fun d e h => ⟨h.1, h.2.1, h.2.2.1, h.2.2.2.1, keepA_own h.2.2.2.2 b⟩) h
theorem OwD.weaken {w : World} {B B' : Nat} {D : List OV} {E : List Op5} (h : OwD w B D E) (hb : B' ≤ B) : OwD w B' D E := All2.imp (fun d e h => ⟨h.1, h.2.1, h.2.2.1, h.2.2.2.1, own_weaken h.2.2.2.2 hb⟩) h
theorem OwD.re {w : World} {B : Nat} {D : List OV} {E : List Op5} (h : OwD w B D E) : ReD w D E := All2.imp (fun d e h => ⟨h.1, h.2.1, h.2.2.1, h.2.2.2.1, own_RN h.2.2.2.2⟩) h
/-- A list of operations, the call's own. -/
def CoO (w : World) (B : Nat) (v : Value) (E : List Op5) : Prop := ∃ D, OwnO w B v D ∧ OwD w B D E
theorem CoO.below {w w' : World} {B : Nat} {v : Value} {E : List Op5} (h : CoO w B v E) (b : Below w.heap.size w w') : CoO w' B v E := by
  obtain ⟨D, h1, h2⟩ := h
  exact ⟨D, owns_below h1 b, h2.below b⟩
theorem CoO.re {w : World} {B : Nat} {v : Value} {E : List Op5} (h : CoO w B v E) : ReO w v E := by
  obtain ⟨D, h1, h2⟩ := h
  exact ⟨D, own_rowO h1, h2.re⟩

set_option maxHeartbeats 2000000 in
set_option maxRecDepth 100000 in
theorem copied5_any (v : Value) (E : List Op5) (w : World) (hv : ReO w v E) (hl : E.length ≤ 1048576) (hA : ∀ e ∈ E, e.A.length ≤ 1048576) :
    Calls Tryd.prog 37 #[v] w fun r w' => ∃ v', r = .returned v' ∧ CoO w' w.heap.size v' E ∧ Below w.heap.size w w' := by
  obtain ⟨D0, hrow, hre⟩ := hv
  have hDE := forall2_len hre
  obtain ⟨n, hn⟩ : ∃ n, D0.length = n := ⟨_, rfl⟩
  obtain ⟨p, cap, rfl, hcap, hnz, hc⟩ := hrow
  have HC : Hid (∀ (j : Nat) (d : OV), D0[j]? = some d → ∃ b off, p = some ⟨b, off, none⟩ ∧ OpAt w b (off + j * 7) d) := hc
  have HN : Hid (D0.length = n ∧ E.length = n) := ⟨hn, by rw [← hDE, hn]⟩
  have HE : Hid (ReD w D0 E ∧ ∀ e ∈ E, e.A.length ≤ 1048576) := ⟨hre, hA⟩
  have hl : n ≤ 1048576 := by rw [← hn, hDE]; exact hl
  rw [hn] at hcap ⊢
  clear hc hn hDE hre hA hnz
  have o0 := own_emptyO w w.heap.size (Nat.le_refl _)
  have b0 := (Below.refl w.heap.size w).alloc (Nat.le_refl _) (.cells #[] 63)
  obtain ⟨W0, hW0⟩ : ∃ W, W = w.alloc (.cells #[] 63) := ⟨_, rfl⟩
  obtain ⟨v0, hv0⟩ : ∃ v0 : Value, v0 = .slice (some ⟨w.heap.size, 0, none⟩) 0 0 := ⟨_, rfl⟩
  rw [← hW0, ← hv0] at o0
  rw [← hW0] at b0
  go_enter Tryd.func37, Tryd.ntmps37
  go_wp2
  rw [← hW0, ← hv0]
  clear hW0 hv0
  go_loopw [3, 9] (fun o i wr => ∃ (k : Nat) (D : List OV), k ≤ n ∧ i = .int .i64 k ∧ D.length = k ∧ OwnO wr w.heap.size o D ∧ OwD wr w.heap.size D (E.take k) ∧ Below w.heap.size w wr) (fun _ i _ => n - (RowKit.intOf i).toNat)
  case atStart => exact ⟨0, [], Nat.zero_le _, rfl, rfl, o0, .nil, b0⟩
  case round =>
    clear o0 b0
    obtain ⟨k, D, hk, rfl, hDl, hown, hsp, hbw⟩ := hrel
    by_cases hlt : k < n
    · have hltI : (k : Int) < n := by omega
      obtain ⟨d, hd⟩ : ∃ d, D0[k]? = some d := ⟨_, List.getElem?_eq_getElem (by rw [HN.out.1]; exact hlt)⟩
      obtain ⟨e, he, hr⟩ := forall2_get HE.out.1 k d hd
      obtain ⟨b, off, rfl, hp⟩ := HC.out k d hd
      have hpw := hp.below hbw
      obtain ⟨c0, c1, c2, c3, c4, c5, c6⟩ := hpw
      have hrw := hr.2.2.2.2.below hbw
      have HT : Hid (E.take (k + 1) = E.take k ++ [e]) := by show _ = _; rw [List.take_add_one, he]; rfl
      have HR : Hid (d.1 = e.k ∧ d.2.1 = e.t ∧ d.2.2.1 = e.v ∧ d.2.2.2.1 = e.c) := ⟨hr.1, hr.2.1, hr.2.2.1, hr.2.2.2.1⟩
      have HO : Hid (OwnO wr w.heap.size u3 D ∧ OwD wr w.heap.size D (E.take k)) := ⟨hown, hsp⟩
      have hAl : e.A.length ≤ 1048576 := HE.out.2 e (List.mem_of_getElem? he)
      clear hd he hr hp hown hsp
      obtain ⟨dk, dt, ⟨dx, dn, du⟩, dc, ds⟩ := d
      obtain ⟨dp, dl, dcap⟩ := ds
      simp only [slV] at c0 c1 c2 c3 c4 c5 c6 hrw
      obtain ⟨W1, hW1⟩ : ∃ W, W = wr.alloc (.cells #[.int .i64 dk, .string dt, .int .i64 dx, .int .i64 dn, .string du, .int .i64 dc, .slice dp dl dcap] 63) := ⟨_, rfl⟩
      have D1 : OpAt W1 wr.heap.size 0 (dk, dt, (dx, dn, du), dc, dp, dl, dcap) := by rw [hW1]; exact ⟨by simp, by simp, by simp, by simp, by simp, by simp, by simp⟩
      have b1 : Below wr.heap.size wr W1 := by rw [hW1]; exact (Below.refl _ _).alloc (Nat.le_refl _) _
      have s1 : W1.heap.size = wr.heap.size + 1 := by rw [hW1]; simp
      have f1 : W1.frozen? ⟨wr.heap.size, 6, none⟩ = false := by rw [hW1]; simp
      have hr1 := hrw.below b1
      go_upto_region 5 with fail
      rw [← hW1]
      clear hW1 hrw
      have be := (Below.refl W1.heap.size W1).alloc (Nat.le_refl _) (.cells #[] 48)
      have oE := own_empty' W1 W1.heap.size (Nat.le_refl _)
      have hr2 := hr1.below be
      have q6 := (D1.below be).c6
      rw [Nat.zero_add] at q6
      simp only [slV] at q6
      have HR2 : Hid (RN (W1.alloc (.cells #[] 48)) (.slice dp dl dcap) e.A) := hr2
      have HD1 : Hid (OpAt W1 wr.heap.size 0 (dk, dt, (dx, dn, du), dc, dp, dl, dcap) ∧ W1.frozen? ⟨wr.heap.size, 6, none⟩ = false ∧ Below wr.heap.size wr W1 ∧ W1.heap.size = wr.heap.size + 1) := ⟨D1, f1, b1, s1⟩
      have n1 : ¬ wr.heap.size = W1.heap.size := by omega
      have n2 : ¬ W1.heap.size = wr.heap.size := by omega
      have hge2 : Hid (∀ j, (Value.slice (some ⟨W1.heap.size, 0, none⟩) 0 0).ownBlock = some j → W1.heap.size ≤ j) := fun j hj => (owns_block oE j hj).1
      clear f1 D1 hr1 c0 c1 c2 c3 c4 c5 c6 hr2 b1 s1
      have hL0 : ([] : List A2).length + e.A.length ≤ 2097152 := by simp; omega
      go_upto_region 6 with (at_builtin; refine wpList_append_row rfl (.tmp 13) (.tmp 15) rfl W1.heap.size (.slice (some ⟨W1.heap.size, 0, none⟩) 0 0) [] rfl oE (.slice dp dl dcap) e.A rfl HR2.out.row HR2.out.nz hL0 be.size ?_; intro v9 w9 own9 gr9; obtain ⟨p9, c9', rfl⟩ := own_slice own9; have b9 : Below W1.heap.size W1 w9 := be.trans (((Below.refl _ _).grown gr9 be.size (fun j hj => hge2.out j hj)).mono (Nat.le_refl _)); have D9 := HD1.out.1.below b9; have f9 := (b9.frozen (p := ⟨wr.heap.size, 6, none⟩) HD1.out.1.lt).trans HD1.out.2.1; obtain ⟨q0, q1, q2, q3, q4, q5, q9⟩ := D9; simp only [Nat.zero_add, slV] at q0 q1 q2 q3 q4 q5 q9; have O9 : Hid (OwnA w9 W1.heap.size (.slice p9 ([] ++ e.A).length c9') ([] ++ e.A)) := own9; clear own9 gr9 q6 oE be hge2 HR2 hL0)
      obtain ⟨W6, hW6⟩ : ∃ W, W = w9.setCell ⟨wr.heap.size, 6, none⟩ (.slice p9 e.A.length c9') := ⟨_, rfl⟩
      have hq : ∀ i, i ≠ 6 → W6.cell? ⟨wr.heap.size, i, none⟩ = w9.cell? ⟨wr.heap.size, i, none⟩ := fun i hi => by
        rw [hW6]; exact World.cell?_setCell_other _ _ _ _ (fun e => by cases e; omega)
      have r0 := (hq 0 (by decide)).trans q0
      have r1 := (hq 1 (by decide)).trans q1
      have r2 := (hq 2 (by decide)).trans q2
      have r3 := (hq 3 (by decide)).trans q3
      have r4 := (hq 4 (by decide)).trans q4
      have r5 := (hq 5 (by decide)).trans q5
      have r6 : W6.cell? ⟨wr.heap.size, 6, none⟩ = some (.slice p9 e.A.length c9') := by rw [hW6]; exact World.cell?_setCell_same' _ _ _ (by rw [q9]; rfl)
      have b5 : Below wr.heap.size wr w9 := HD1.out.2.2.1.trans (b9.mono (by have := HD1.out.2.2.2; omega))
      have b6 : Below wr.heap.size wr W6 := by rw [hW6]; exact b5.setCell (Nat.le_refl _) _
      have O6 : OwnA W6 w.heap.size (.slice p9 e.A.length c9') e.A := by
        have h1 := ownsRow_setCell_below O9.out (a := ⟨wr.heap.size, 6, none⟩) (by have := HD1.out.2.2.2; show wr.heap.size < W1.heap.size; omega) (.slice p9 e.A.length c9')
        have h2 := own_weaken h1 (B' := w.heap.size) (by have := hbw.size; have := HD1.out.2.2.2; omega)
        rw [hW6]
        exact h2
      rw [← hW6]
      clear hW6 hq q0 q1 q2 q3 q4 q5 q9 f9 b5 b9 O9 n1 n2
      have ba : Below W6.heap.size W6 (W6.alloc (.cells #[.int .i64 dk, .string dt, .int .i64 dx, .int .i64 dn, .string du, .int .i64 dc, .slice p9 e.A.length c9'] 63)) := (Below.refl _ _).alloc (Nat.le_refl _) _
      have b7 := b6.trans (ba.mono b6.size)
      have HO7 : Hid (OwnO (W6.alloc (.cells #[.int .i64 dk, .string dt, .int .i64 dx, .int .i64 dn, .string du, .int .i64 dc, .slice p9 e.A.length c9'] 63)) w.heap.size u3 D ∧ OpAt (W6.alloc (.cells #[.int .i64 dk, .string dt, .int .i64 dx, .int .i64 dn, .string du, .int .i64 dc, .slice p9 e.A.length c9'] 63)) W6.heap.size 0 (dk, dt, (dx, dn, du), dc, p9, e.A.length, c9')) := ⟨owns_below HO.out.1 b7, ⟨by simp, by simp, by simp, by simp, by simp, by simp, by simp⟩⟩
      have HP7 : Hid (OwD (W6.alloc (.cells #[.int .i64 dk, .string dt, .int .i64 dx, .int .i64 dn, .string du, .int .i64 dc, .slice p9 e.A.length c9'] 63)) w.heap.size (D ++ [(dk, dt, (dx, dn, du), dc, p9, e.A.length, c9')]) (E.take (k + 1))) := by
        show OwD _ _ _ _
        rw [HT.out]
        exact forall2_append (HO.out.2.below b7) (.cons ⟨HR.out.1, HR.out.2.1, HR.out.2.2.1, HR.out.2.2.2, owns_below O6 ba⟩ .nil)
      have hge : Hid (∀ j, u3.ownBlock = some j → w.heap.size ≤ j) := fun j hj => (owns_block HO.out.1 j hj).1
      have bw7 := hbw.trans (b7.mono hbw.size)
      have hlen : D.length ≤ 33554432 := by omega
      clear O6 ba b7 b6 HO HT HR HD1
      go_wp2_with (at_builtin; refine wpList_append_ops rfl (.tmp 18) (.tmp 20) rfl w.heap.size u3 D rfl HO7.out.1 W6.heap.size 1 _ rfl HO7.out.2 hlen bw7.size ?_; intro v8 w8 own8 gr8 hat8; have hsp8 : Hid (OwD w8 w.heap.size _ _) := HP7.out.keep (keepA_grownO HO7.out.1 gr8); have b8 := bw7.grown gr8 bw7.size (fun j hj => hge.out j hj); have HO8 : Hid (OwnO w8 w.heap.size v8 _) := own8; clear own8 gr8 hat8 HO7 HP7)
      go_roundw
      case rel => exact ⟨k + 1, _, by omega, by go_num, by simp [hDl], HO8.out, hsp8.out, b8⟩
      case measure => simp [RowKit.intOf]; omega
    · have hltI : ¬ (k : Int) < n := by omega
      have hE : E.take k = E := List.take_of_length_le (by rw [HN.out.2]; omega)
      rw [hE] at hsp
      have HX : Hid (CoO wr w.heap.size u3 E) := ⟨D, hown, hsp⟩
      clear hown hsp
      go_wp2
      go_ret
      exact ⟨_, rfl, HX.out, hbw⟩
end Go.Proofs.YtkgflmbhkbeakaaDoor

/- The errors' numbers: what vellumnum.list and vellumnum.Num answer where all nineteen sentinels lie as laid. -/
namespace Go.Proofs.YtkgflmbhkbeakaaDoor
open Go Go.RowKit
set_option linter.unusedVariables false

/-- All nineteen. -/
def all19 : List Nat := List.range 19
abbrev Sent (a : Nat → Addr) (w : World) : Prop := Er all19 a w
theorem in19 {i : Nat} (h : i < 19) : i ∈ all19 := List.mem_range.2 h
def errA (a : Nat → Addr) : Array Value := #[errV a 0, errV a 1, errV a 2, errV a 3, errV a 4, errV a 5, errV a 6, errV a 7, errV a 8, errV a 9, errV a 10, errV a 11, errV a 12, errV a 13, errV a 14, errV a 15, errV a 16, errV a 17, errV a 18]

theorem wl_build (a : Nat → Addr) {ops : Array Oper} {rest : List Oper} {o : Oper} {A : Act} {w : World} {Q : Exit → Act → World → Prop} (hg : o.guard = none) (parts : Array (Nat × Operand)) (ho : o.op = .build 100 parts)
    (hp : (parts.map fun (i, x) => (i, A.eval x)) = #[(0, errV a 0), (1, errV a 1), (2, errV a 2), (3, errV a 3), (4, errV a 4), (5, errV a 5), (6, errV a 6), (7, errV a 7), (8, errV a 8), (9, errV a 9), (10, errV a 10), (11, errV a 11), (12, errV a 12), (13, errV a 13), (14, errV a 14), (15, errV a 15), (16, errV a 16), (17, errV a 17), (18, errV a 18)])
    (h : wpList Tryd.prog ops Q rest (A.put o.dst (.agg (errA a))) w) : wpList Tryd.prog ops Q (o :: rest) A w := by
  have hb : Tryd.prog.built 100 (parts.map fun (i, x) => (i, A.eval x)).toList = some (errA a) := by rw [hp]; kernel_rfl
  refine wpList_build hg 100 parts ho (by rw [hb]; rfl) ?_
  rw [hb]; exact h

theorem alloc_setRow (w : World) (old cs : Array Value) (t : TypeId) : (w.alloc (.cells old t)).setRow w.heap.size cs = w.alloc (.cells cs t) := by
  have : ((w.heap.push (.cells old t)).modify w.heap.size fun | .cells _ t f => .cells cs t f | o => o) = w.heap.push (.cells cs t) := by
    apply Array.ext
    · simp
    · intro i h1 h2
      rw [Array.getElem_modify]
      by_cases hi : w.heap.size = i
      · subst hi; simp
      · rw [if_neg hi]
        have : i < w.heap.size := by simp at h2; omega
        simp [Array.getElem_push, this]
  show { w with heap := (w.heap.push (.cells old t)).modify w.heap.size _ } = { w with heap := w.heap.push _ }
  rw [← this]; rfl

theorem wl_store (a : Nat → Addr) {ops : Array Oper} {rest : List Oper} {o : Oper} {A : Act} {w : World} {Q : Exit → Act → World → Prop} {old : Array Value} (hg : o.guard = none) (x y : Operand) (ho : o.op = .store 100 x y)
    (hx : A.eval x = .pointer (some ⟨w.heap.size, 0, none⟩)) (hy : A.eval y = .agg (errA a)) (hold : old.size = 19)
    (h : wpList Tryd.prog ops Q rest (A.put o.dst undef) (w.alloc (.cells (errA a) 100))) : wpList Tryd.prog ops Q (o :: rest) A (w.alloc (.cells old 100)) := by
  refine wpList_store_row hg 100 x y ho w.heap.size (errA a) hx hy 100 old (by show (w.heap.push _)[w.heap.size]? = _; simp) (by kernel_rfl) (by rw [hold]; rfl) (by kernel_rfl) ?_
  rw [alloc_setRow]; exact h

set_option maxHeartbeats 400000 in
set_option maxRecDepth 100000 in
theorem list_any (a : Nat → Addr) (w : World) (h : ∀ i, i < 19 → w.cell? ⟨[3, 4, 5, 6, 7, 8, 0, 1, 2, 9, 10, 11, 12, 13, 14, 15, 16, 17, 18].getD i 0, 0, none⟩ = some (errV a i)) :
    Calls Tryd.prog 52 #[] w fun e w' => e = .returned (.agg (errA a)) ∧ Below w.heap.size w w' := by
  have h0 : w.cell? ⟨3, 0, none⟩ = some (errV a 0) := h 0 (by omega)
  have h1 : w.cell? ⟨4, 0, none⟩ = some (errV a 1) := h 1 (by omega)
  have h2 : w.cell? ⟨5, 0, none⟩ = some (errV a 2) := h 2 (by omega)
  have h3 : w.cell? ⟨6, 0, none⟩ = some (errV a 3) := h 3 (by omega)
  have h4 : w.cell? ⟨7, 0, none⟩ = some (errV a 4) := h 4 (by omega)
  have h5 : w.cell? ⟨8, 0, none⟩ = some (errV a 5) := h 5 (by omega)
  have h6 : w.cell? ⟨0, 0, none⟩ = some (errV a 6) := h 6 (by omega)
  have h7 : w.cell? ⟨1, 0, none⟩ = some (errV a 7) := h 7 (by omega)
  have h8 : w.cell? ⟨2, 0, none⟩ = some (errV a 8) := h 8 (by omega)
  have h9 : w.cell? ⟨9, 0, none⟩ = some (errV a 9) := h 9 (by omega)
  have h10 : w.cell? ⟨10, 0, none⟩ = some (errV a 10) := h 10 (by omega)
  have h11 : w.cell? ⟨11, 0, none⟩ = some (errV a 11) := h 11 (by omega)
  have h12 : w.cell? ⟨12, 0, none⟩ = some (errV a 12) := h 12 (by omega)
  have h13 : w.cell? ⟨13, 0, none⟩ = some (errV a 13) := h 13 (by omega)
  have h14 : w.cell? ⟨14, 0, none⟩ = some (errV a 14) := h 14 (by omega)
  have h15 : w.cell? ⟨15, 0, none⟩ = some (errV a 15) := h 15 (by omega)
  have h16 : w.cell? ⟨16, 0, none⟩ = some (errV a 16) := h 16 (by omega)
  have h17 : w.cell? ⟨17, 0, none⟩ = some (errV a 17) := h 17 (by omega)
  have h18 : w.cell? ⟨18, 0, none⟩ = some (errV a 18) := h 18 (by omega)
  have z0 : 3 < w.heap.size := lt_of_cell h0
  have z1 : 4 < w.heap.size := lt_of_cell h1
  have z2 : 5 < w.heap.size := lt_of_cell h2
  have z3 : 6 < w.heap.size := lt_of_cell h3
  have z4 : 7 < w.heap.size := lt_of_cell h4
  have z5 : 8 < w.heap.size := lt_of_cell h5
  have z6 : 0 < w.heap.size := lt_of_cell h6
  have z7 : 1 < w.heap.size := lt_of_cell h7
  have z8 : 2 < w.heap.size := lt_of_cell h8
  have z9 : 9 < w.heap.size := lt_of_cell h9
  have z10 : 10 < w.heap.size := lt_of_cell h10
  have z11 : 11 < w.heap.size := lt_of_cell h11
  have z12 : 12 < w.heap.size := lt_of_cell h12
  have z13 : 13 < w.heap.size := lt_of_cell h13
  have z14 : 14 < w.heap.size := lt_of_cell h14
  have z15 : 15 < w.heap.size := lt_of_cell h15
  have z16 : 16 < w.heap.size := lt_of_cell h16
  have z17 : 17 < w.heap.size := lt_of_cell h17
  have z18 : 18 < w.heap.size := lt_of_cell h18
  clear h
  go_enter Tryd.func52, Tryd.ntmps52
  go_wp2_with (first | (refine wl_build a rfl _ rfl (by kernel_rfl) ?_) | (refine wl_store a rfl _ _ rfl (by kernel_rfl) (by kernel_rfl) (by kernel_rfl) ?_))
  have hl := run_loadVar_new (P := Tryd.prog) w 100 (errA a) 19 27 Tryd.underlying100 (by kernel_rfl)
  refine bodyPost_ret (v := .agg (errA a)) ?_ rfl ⟨rfl, (Below.refl _ _).alloc (Nat.le_refl _) _⟩
  simp only [results, Tryd.results52]
  simp [asAddr, Act.put, hl]

theorem errA_get (a : Nat → Addr) (k : Nat) (hk : k < 19) : (errA a)[k]? = some (errV a k) := by
  have e : errA a = ((List.range 19).map (errV a)).toArray := rfl
  rw [e]
  simp [hk]

theorem index_arr {A : Array Value} {k : Nat} {v : Value} (hk : k < 19) (hA : A[k]? = some v) (w : World) : (Instr.index 100 (.agg A) (.int .i64 k)).run Tryd.prog w = .ok v w := by
  obtain ⟨i, hi, hs⟩ := Option.map_eq_some_iff.1 (show (Tryd.prog.info? 27).map (·.size) = some 1 by kernel_rfl)
  have hk2 : (0 : Int) ≤ k ∧ (k : Int) < 19 := by omega
  simp [Instr.index, run_underlying Tryd.underlying100, asIntOf, hk2, sizeOf, typeInfo, hi, hs, part, hA]
  omega

theorem num_nil (w : World) : Calls Tryd.prog 11 #[.nilIface] w fun e w' => e = .returned (.int .i64 0) ∧ w' = w := by
  go_enter Tryd.func11, Tryd.ntmps11
  go_wp2
  go_ret
  exact ⟨rfl, rfl⟩

set_option maxHeartbeats 400000 in
theorem num_err {a : Nat → Addr} {w : World} (h : Sent a w) (n : Nat) (hn : n < 19) :
    Calls Tryd.prog 11 #[errV a n] w fun e w' => e = .returned (.int .i64 (n + 1)) ∧ Below w.heap.size w w' := by
  have hcell : ∀ i, i < 19 → w.cell? ⟨[3, 4, 5, 6, 7, 8, 0, 1, 2, 9, 10, 11, 12, 13, 14, 15, 16, 17, 18].getD i 0, 0, none⟩ = some (errV a i) := fun i hi => h.cell i (in19 hi)
  have hnil := eql_nil a n
  have hsame := eql_same a n
  obtain ⟨A, hA⟩ : ∃ A, A = errA a := ⟨_, rfl⟩
  have hAs : A.size = 19 := by rw [hA]; rfl
  have hAg : ∀ k, k < 19 → A[k]? = some (errV a k) := by rw [hA]; exact errA_get a
  go_enter Tryd.func11, Tryd.ntmps11
  go_wp2_with (go_at_call 52; refine (list_any a _ hcell).mono ?_; rintro e w1 ⟨rfl, hb⟩; have h1 := h.below hb; clear hcell h hnil; rw [← hA]; clear hA)
  go_loop [8] (fun i => ∃ k : Nat, k ≤ n ∧ i = .int .i64 k) (fun i => 19 - (intOf i).toNat)
  case atStart => exact ⟨0, Nat.zero_le _, rfl⟩
  case round =>
    obtain ⟨k, hk, rfl⟩ := hrel
    have hAk := hAg k (by omega)
    have hk9 : (k : Int) < 19 := by omega
    have hix := index_arr (A := A) (by omega : k < 19) hAk
    clear hAg hAk
    by_cases hlt : k < n
    · have he := eql_other h1 n k (in19 hn) (in19 (by omega)) (by omega)
      clear h1 hsame
      go_wp2
      go_round
      case rel => exact ⟨k + 1, by omega, by go_num⟩
      case measure => simp [intOf]; omega
    · obtain rfl : k = n := by omega
      clear h1
      go_wp2
      go_ret
      exact ⟨rfl, hb⟩

theorem num_of {a : Nat → Addr} {w : World} (h : Sent a w) (e : Nat) (he : e ≤ 19) :
    Calls Tryd.prog 11 #[errOf a e] w fun r w' => r = .returned (.int .i64 e) ∧ Below w.heap.size w w' := by
  cases e with
  | zero => exact (num_nil w).mono fun r w' ⟨h1, h2⟩ => ⟨h1, by rw [h2]; exact Below.refl _ _⟩
  | succ n => rw [errOf_succ]; exact num_err h n (by omega)
end Go.Proofs.YtkgflmbhkbeakaaDoor

/- Of all lists of operations vellumlaw05.OpsPlays answers true. -/
namespace Go.Proofs.YtkgflmbhkbeakaaDoor
open Go Go.RowKit Go.Lib
set_option linter.unusedVariables false

theorem opE_le (o : Op5) : opE o ≤ 19 := by
  have hl : ∀ (nulls : Bool) (L : List A2) (pv : Option ByteArray), listE nulls pv L ≤ 10 := fun nulls L => by
    induction L with
    | nil => intro pv; rw [listE]; omega
    | cons q r ih =>
      intro pv
      rw [listE]
      split
      · split
        · omega
        · split
          · exact ih _
          · omega
      · unfold pairE
        split
        · omega
        · split
          · omega
          · exact chk_le _ _ _
  unfold opE
  split
  · have := insE_le o (fun L => hl false L none); omega
  · have hc : cntE o ≤ 11 := by unfold cntE; split; omega; split <;> omega
    split
    · split
      · omega
      · have := hl true o.A none; omega
    · split
      · split <;> omega
      · omega
theorem badP_le (E : List Op5) : (badP E).2 ≤ 19 := by
  rcases bad_cases E with ⟨_, h⟩ | ⟨k, o, _, _, _, h⟩
  · rw [h]; omega
  · rw [h]; exact opE_le o
theorem sumL_le : ∀ (E : List Op5) (b r : Int), (sumL b r E).2.2 ≤ 19
  | [], b, r => Nat.zero_le _
  | o :: L, b, r => by
    rw [sumL]
    split
    · simp only []; omega
    · exact sumL_le L _ _
theorem lensL_le (E : List Op5) : (lensL E).2.2 ≤ 19 := by
  unfold lensL
  split
  · exact badP_le E
  · exact sumL_le E 0 0

set_option maxHeartbeats 4000000 in
set_option maxRecDepth 100000 in
theorem opsPlays_any {I : List Nat} {ad : Nat → Addr} (va vb : Value) (A B : List Op5) (w : World) (hI : ∀ i ∈ IxO, i ∈ I) (hS : Std I ad w) (hN : Sent ad w) (ra : ReO w va A) (rb : ReO w vb B) (fA : FitL A) (fB : FitL B) (lA : A.length ≤ 1048576) (lB : B.length ≤ 1048576) :
    Calls Tryd.prog 6 #[va, vb] w fun r w' => r = .returned (.bool true) ∧ Below w.heap.size w w' := by
  have cF := fixed5_any w hI hS
  have hAA : ∀ e ∈ A, e.A.length ≤ 1048576 := fun e he => (fA e he).n
  have hAB : ∀ e ∈ B, e.A.length ≤ 1048576 := fun e he => (fB e he).n
  have HX : Hid (∀ W, Below w.heap.size w W → Std I ad W ∧ Sent ad W ∧ ReO W va A ∧ ReO W vb B) := fun W hW => ⟨hS.below hW, hN.below hW, ra.below hW, rb.below hW⟩
  have HF : Hid (FitL A ∧ FitL B ∧ (∀ e ∈ A, e.A.length ≤ 1048576) ∧ (∀ e ∈ B, e.A.length ≤ 1048576)) := ⟨fA, fB, hAA, hAB⟩
  obtain ⟨D, hrow, hre⟩ := ra
  have hDE := forall2_len hre
  obtain ⟨n, hn⟩ : ∃ n, D.length = n := ⟨_, rfl⟩
  obtain ⟨pa, ca, rfl, hca, hza, hA⟩ := hrow
  obtain ⟨pb, nb, cb, rfl⟩ : ∃ p n c, vb = .slice p n c := by obtain ⟨D', ⟨p, c, h, _⟩, _⟩ := rb; exact ⟨_, _, _, h⟩
  have HA : Hid (D.length = n ∧ A.length = n ∧ (∀ (j : Nat) (d : OV), D[j]? = some d → ∃ b off, pa = some ⟨b, off, none⟩ ∧ OpAt w b (off + j * 7) d) ∧ ReD w D A) := ⟨hn, by rw [← hDE, hn], hA, hre⟩
  have hl : n ≤ 1048576 := by rw [← hn, hDE]; exact lA
  rw [hn] at hca HX ⊢
  have HI : Hid (∀ i ∈ IxO, i ∈ I) := hI
  have LL : Hid (A.length ≤ 1048576 ∧ B.length ≤ 1048576) := ⟨lA, lB⟩
  clear hA hre hDE hn hza fA fB hS hN rb hAA hAB hI lA lB
  go_enter Tryd.func6, Tryd.ntmps6
  go_wp2_with fail
  refine cF.mono ?_; rintro r w1 ⟨rfl, h1⟩
  have cCp := copied5_any (.slice pa n ca) A w1 (HX.out w1 h1).2.2.1 LL.out.1 HF.out.2.2.1
  clear cF
  go_wp2_with fail
  refine cCp.mono ?_; rintro r w5 ⟨v5, rfl, hco, h5⟩
  have b5 := h1.trans (h5.mono h1.size)
  have R5 := hco.re
  have HX5 : Hid (∀ W, Below w5.heap.size w5 W → Std I ad W ∧ Sent ad W ∧ ReO W (.slice pa n ca) A ∧ ReO W (.slice pb nb cb) B ∧ ReO W v5 A) := fun W hW => by
    obtain ⟨x1, x2, x3, x4⟩ := HX.out W (b5.trans (hW.mono b5.size))
    exact ⟨x1, x2, x3, x4, R5.below hW⟩
  obtain ⟨D5, hrow5, hre5⟩ := R5
  have hDE5 := forall2_len hre5
  obtain ⟨p5, c5, rfl, hc5, _, hA5⟩ := hrow5
  have hl5 : D5.length = n := by rw [hDE5]; exact HA.out.2.1
  rw [hl5] at hc5 HX5 ⊢
  have H5 : Hid (D5.length = n ∧ (∀ (j : Nat) (d : OV), D5[j]? = some d → ∃ b off, p5 = some ⟨b, off, none⟩ ∧ OpAt w5 b (off + j * 7) d) ∧ ReD w5 D5 A) := ⟨hl5, hA5, hre5⟩
  clear cCp hco h5 h1 hA5 hre5 hDE5 hl5
  go_wp2_with fail
  go_loopw [19, 6] (fun i _ wr => ∃ (k : Nat), k ≤ n ∧ i = .int .i64 k ∧ Below w5.heap.size w5 wr) (fun i _ _ => n - (RowKit.intOf i).toNat)
  case atStart => exact ⟨0, Nat.zero_le _, rfl, Below.refl _ _⟩
  case round =>
    obtain ⟨k, hk, rfl, hbw⟩ := hrel
    by_cases hlt : k < n
    · have hltI : (k : Int) < n := by omega
      obtain ⟨d, hd⟩ : ∃ q, D[k]? = some q := ⟨_, List.getElem?_eq_getElem (by rw [HA.out.1]; exact hlt)⟩
      obtain ⟨d', hd'⟩ : ∃ q, D5[k]? = some q := ⟨_, List.getElem?_eq_getElem (by rw [H5.out.1]; exact hlt)⟩
      obtain ⟨e, he, hr⟩ := forall2_get HA.out.2.2.2 k d hd
      obtain ⟨e', he', hr'⟩ := forall2_get H5.out.2.2 k d' hd'
      obtain rfl : e = e' := Option.some.inj (he.symm.trans he')
      have fe := HF.out.1 e (List.mem_of_getElem? he)
      have bw := b5.trans (hbw.mono b5.size)
      have cC : ∀ W, Below w5.heap.size w5 W → Calls Tryd.prog 38 #[ovV d'] W fun r w' => r = .returned (errOf ad (opE e)) ∧ Below W.heap.size W w' := fun W hW => by
        rw [opV_of hr']
        exact checkO_any e _ W HI.out (HX5.out W hW).1 (hr'.2.2.2.2.below hW) fe
      have cR : ∀ W, Below w5.heap.size w5 W → Calls Tryd.prog 39 #[ovV d] W fun r w' => r = .returned (.int .i64 (opE e)) ∧ Below W.heap.size W w' := fun W hW => by
        rw [opV_of hr]
        exact refCheckO_any e _ W (HX5.out W hW).1 (hr.2.2.2.2.below (b5.trans (hW.mono b5.size))) fe
      have cN : ∀ W, Below w5.heap.size w5 W → Calls Tryd.prog 11 #[errOf ad (opE e)] W fun r w' => r = .returned (.int .i64 (opE e)) ∧ Below W.heap.size W w' := fun W hW => num_of (HX5.out W hW).2.1 _ (opE_le e)
      obtain ⟨er, her⟩ : ∃ x, errOf ad (opE e) = x := ⟨_, rfl⟩
      obtain ⟨z9, hz9⟩ : ∃ x : Int, ((opE e : Nat) : Int) = x := ⟨_, rfl⟩
      rw [her] at cC cN
      rw [hz9] at cR cN
      obtain ⟨b, off, rfl, hin⟩ := HA.out.2.2.1 k d hd
      obtain ⟨b', off', rfl, hin'⟩ := H5.out.2.1 k d' hd'
      obtain ⟨c0, c1, c2, c3, c4, c5, c6⟩ := hin.below bw
      obtain ⟨d0, d1, d2, d3, d4, d5, d6⟩ := hin'.below hbw
      clear hin hin' hd hd' he he' hr hr' fe her hz9
      obtain ⟨f, t, ⟨x, z, u⟩, cc1, p, j, c⟩ := d
      obtain ⟨f', t', ⟨x', z', u'⟩, cc1', p', j', c'⟩ := d'
      simp only [slV] at c0 c1 c2 c3 c4 c5 c6 d0 d1 d2 d3 d4 d5 d6
      simp only [ovV, ovC, slV] at cC cR
      have HU : Hid (∀ w', Below wr.drew.heap.size wr.drew w' → (w'.cell? ⟨b, off + k * 7, none⟩ = some (.int .i64 f) ∧ w'.cell? ⟨b, off + k * 7 + 1, none⟩ = some (.string t) ∧ w'.cell? ⟨b, off + k * 7 + 2, none⟩ = some (.int .i64 x) ∧ w'.cell? ⟨b, off + k * 7 + 3, none⟩ = some (.int .i64 z) ∧ w'.cell? ⟨b, off + k * 7 + 4, none⟩ = some (.string u) ∧ w'.cell? ⟨b, off + k * 7 + 5, none⟩ = some (.int .i64 cc1) ∧ w'.cell? ⟨b, off + k * 7 + 6, none⟩ = some (.slice p j c) ∧ w'.cell? ⟨b', off' + k * 7, none⟩ = some (.int .i64 f') ∧ w'.cell? ⟨b', off' + k * 7 + 1, none⟩ = some (.string t') ∧ w'.cell? ⟨b', off' + k * 7 + 2, none⟩ = some (.int .i64 x') ∧ w'.cell? ⟨b', off' + k * 7 + 3, none⟩ = some (.int .i64 z') ∧ w'.cell? ⟨b', off' + k * 7 + 4, none⟩ = some (.string u') ∧ w'.cell? ⟨b', off' + k * 7 + 5, none⟩ = some (.int .i64 cc1') ∧ w'.cell? ⟨b', off' + k * 7 + 6, none⟩ = some (.slice p' j' c'))) := fun w' hb => ⟨(hb.cell (lt_of_cell (w := wr.drew) c0)).trans c0, (hb.cell (lt_of_cell (w := wr.drew) c1)).trans c1, (hb.cell (lt_of_cell (w := wr.drew) c2)).trans c2, (hb.cell (lt_of_cell (w := wr.drew) c3)).trans c3, (hb.cell (lt_of_cell (w := wr.drew) c4)).trans c4, (hb.cell (lt_of_cell (w := wr.drew) c5)).trans c5, (hb.cell (lt_of_cell (w := wr.drew) c6)).trans c6, (hb.cell (lt_of_cell (w := wr.drew) d0)).trans d0, (hb.cell (lt_of_cell (w := wr.drew) d1)).trans d1, (hb.cell (lt_of_cell (w := wr.drew) d2)).trans d2, (hb.cell (lt_of_cell (w := wr.drew) d3)).trans d3, (hb.cell (lt_of_cell (w := wr.drew) d4)).trans d4, (hb.cell (lt_of_cell (w := wr.drew) d5)).trans d5, (hb.cell (lt_of_cell (w := wr.drew) d6)).trans d6⟩
      have hz0 : w5.heap.size ≤ wr.drew.heap.size := hbw.size
      clear bw
      go_wp2_with fail
      go_region_held3 (fun w' => (w'.cell? ⟨b, off + k * 7, none⟩ = some (.int .i64 f) ∧ w'.cell? ⟨b, off + k * 7 + 1, none⟩ = some (.string t) ∧ w'.cell? ⟨b, off + k * 7 + 2, none⟩ = some (.int .i64 x) ∧ w'.cell? ⟨b, off + k * 7 + 3, none⟩ = some (.int .i64 z) ∧ w'.cell? ⟨b, off + k * 7 + 4, none⟩ = some (.string u) ∧ w'.cell? ⟨b, off + k * 7 + 5, none⟩ = some (.int .i64 cc1) ∧ w'.cell? ⟨b, off + k * 7 + 6, none⟩ = some (.slice p j c) ∧ w'.cell? ⟨b', off' + k * 7, none⟩ = some (.int .i64 f') ∧ w'.cell? ⟨b', off' + k * 7 + 1, none⟩ = some (.string t') ∧ w'.cell? ⟨b', off' + k * 7 + 2, none⟩ = some (.int .i64 x') ∧ w'.cell? ⟨b', off' + k * 7 + 3, none⟩ = some (.int .i64 z') ∧ w'.cell? ⟨b', off' + k * 7 + 4, none⟩ = some (.string u') ∧ w'.cell? ⟨b', off' + k * 7 + 5, none⟩ = some (.int .i64 cc1') ∧ w'.cell? ⟨b', off' + k * 7 + 6, none⟩ = some (.slice p' j' c')) ∧ Below w5.heap.size w5 w')
        (exact ⟨by first | (with_reducible assumption) | (simp [*]; done), by first | (with_reducible assumption) | exact hbw.drew⟩)
        (first
          | (go_at_call 39; refine (cR _ ?_).mono ?_; (· first | assumption | (apply And.right; assumption)); rintro r wC ⟨rfl, bC'⟩; have bC : Below wr.drew.heap.size wr.drew wC := bB.trans (bC'.mono bB.size); have jC : Below w5.heap.size w5 wC := (hbw.drew).trans (bC.mono hz0); have mmC := HU.out _ bC)
          | (go_at_call 11; refine (cN _ ?_).mono ?_; (· first | assumption | (apply And.right; assumption)); rintro r wB ⟨rfl, bB'⟩; have bB : Below wr.drew.heap.size wr.drew wB := bA.trans (bB'.mono bA.size); have jB : Below w5.heap.size w5 wB := (hbw.drew).trans (bB.mono hz0); have mmB := HU.out _ bB)
          | (go_at_call 38; refine (cC _ ?_).mono ?_; (· first | assumption | exact hbw.drew | (apply And.right; assumption)); rintro r wA ⟨rfl, bA⟩; have jA : Below w5.heap.size w5 wA := (hbw.drew).trans (bA.mono hz0); have mmA := HU.out _ bA))
      clear cC cR cN mmA mmB mmC jA jB bA bB bC
      go_wp2
      go_roundw
      case rel => exact ⟨k + 1, by omega, by go_num, jC⟩
      case measure => simp [RowKit.intOf]; omega
    · have hltI : ¬ (k : Int) < n := by omega
      have cL := fun W hW => lens_any (.slice p5 n c5) A W HI.out (HX5.out W hW).1 (HX5.out W hW).2.2.2.2 HF.out.1 LL.out.1
      have cM := fun W hW => refLens_any (.slice pa n ca) A W (HX5.out W hW).1 (HX5.out W hW).2.2.1 HF.out.1 LL.out.1
      have cN := fun W hW => num_of (HX5.out W hW).2.1 _ (lensL_le A)
      obtain ⟨L9, hL9⟩ : ∃ x, lensL A = x := ⟨_, rfl⟩
      rw [hL9] at cL cM cN
      obtain ⟨lb, lr, le⟩ := L9
      simp only at cL cM cN
      obtain ⟨er, her⟩ : ∃ x, errOf ad le = x := ⟨_, rfl⟩
      obtain ⟨z9, hz9⟩ : ∃ x : Int, ((le : Nat) : Int) = x := ⟨_, rfl⟩
      rw [her] at cL cN
      rw [hz9] at cM cN
      have cC := fun W hW => canon_any (.slice p5 n c5) A W HI.out (HX5.out W hW).1 (HX5.out W hW).2.2.2.2 HF.out.1 LL.out.1
      have cD := fun W hW => refCanon_any (.slice pa n ca) A W (HX5.out W hW).1 (HX5.out W hW).2.2.1 HF.out.1 LL.out.1
      obtain ⟨qc, hqc⟩ : ∃ x, canonB A = x := ⟨_, rfl⟩
      rw [hqc] at cC cD
      have cS1 := fun W hW => sameL_any (.slice p5 n c5) (.slice pb nb cb) A B W (HX5.out W hW).2.2.2.2 (HX5.out W hW).2.2.2.1 (Nat.le_trans LL.out.1 (by decide)) (Nat.le_trans LL.out.2 (by decide)) HF.out.2.2.1 HF.out.2.2.2
      have cS2 := fun W hW => sameQ_any (.slice pa n ca) (.slice pb nb cb) A B W (HX5.out W hW).2.2.1 (HX5.out W hW).2.2.2.1 (Nat.le_trans LL.out.1 (by decide)) (Nat.le_trans LL.out.2 (by decide)) HF.out.2.2.1 HF.out.2.2.2
      obtain ⟨qs, hqs⟩ : ∃ x, decide (A = B) = x := ⟨_, rfl⟩
      rw [hqs] at cS1 cS2
      have cS3 := fun W hW => sameL_any (.slice p5 n c5) (.slice pa n ca) A A W (HX5.out W hW).2.2.2.2 (HX5.out W hW).2.2.1 (Nat.le_trans LL.out.1 (by decide)) (Nat.le_trans LL.out.1 (by decide)) HF.out.2.2.1 HF.out.2.2.1
      have cS4 := fun W hW => sameQ_any (.slice p5 n c5) (.slice pa n ca) A A W (HX5.out W hW).2.2.2.2 (HX5.out W hW).2.2.1 (Nat.le_trans LL.out.1 (by decide)) (Nat.le_trans LL.out.1 (by decide)) HF.out.2.2.1 HF.out.2.2.1
      rw [decide_eq_true rfl] at cS3 cS4
      have cL : Hid _ := cL
      have cM : Hid _ := cM
      have cN : Hid _ := cN
      have cC : Hid _ := cC
      have cD : Hid _ := cD
      have cS1 : Hid _ := cS1
      have cS2 : Hid _ := cS2
      have cS3 : Hid _ := cS3
      have cS4 : Hid _ := cS4
      clear hL9 her hz9 hqc hqs
      go_wp2_with fail
      refine (cL.out _ hbw).mono ?_; rintro r x1 ⟨rfl, g1⟩
      have f1 := hbw.trans (g1.mono hbw.size)
      clear g1
      go_wp2_with fail
      refine (cM.out _ f1).mono ?_; rintro r x2 ⟨rfl, g2⟩
      have f2 := f1.trans (g2.mono f1.size)
      clear g2 f1
      go_wp2_with fail
      refine (cN.out _ f2).mono ?_; rintro r x3 ⟨rfl, g3⟩
      have f3 := f2.trans (g3.mono f2.size)
      clear g3 f2
      go_wp2_with fail
      refine (cC.out _ f3).mono ?_; rintro r x4 ⟨rfl, g4⟩
      have f4 := f3.trans (g4.mono f3.size)
      clear g4 f3
      go_wp2_with fail
      refine (cD.out _ f4).mono ?_; rintro r x5 ⟨rfl, g5⟩
      have f5 := f4.trans (g5.mono f4.size)
      clear g5 f4
      go_wp2_with fail
      refine (cS1.out _ f5).mono ?_; rintro r x6 ⟨rfl, g6⟩
      have f6 := f5.trans (g6.mono f5.size)
      clear g6 f5
      go_wp2_with fail
      refine (cS2.out _ f6).mono ?_; rintro r x7 ⟨rfl, g7⟩
      have f7 := f6.trans (g7.mono f6.size)
      clear g7 f6
      go_wp2_with fail
      refine (cS3.out _ f7).mono ?_; rintro r x8 ⟨rfl, g8⟩
      have f8 := f7.trans (g8.mono f7.size)
      clear g8 f7
      go_wp2_with fail
      refine (cS4.out _ f8).mono ?_; rintro r x9 ⟨rfl, g9⟩
      have f9 := b5.trans ((f8.trans (g9.mono f8.size)).mono b5.size)
      clear g9 f8
      go_wp2
      go_ret
      exact ⟨rfl, f9⟩
end Go.Proofs.YtkgflmbhkbeakaaDoor
