/- What a stable sort by keys leaves of a list of pairs: the first value of each key (look), in an order that doesn't fall. Of no program. -/
import Derived.Test.YtigmhbgdnmkooaaDoorPa
namespace Go.Proofs.YtigmhbgdnmkooaaDoor
open Go
set_option linter.unusedVariables false

/-- Keys don't fall. -/
def Srt (L : List A2) : Prop := L.Pairwise fun x y => ¬ kc y.1 x.1 < 0
/-- The same first values, the same pairs. -/
structure SL (L M : List A2) : Prop where
  lk : ∀ k, look k M = look k L
  perm : M.Perm L
theorem kc_le_trans {x y z : ByteArray} (h1 : ¬ kc y x < 0) (h2 : ¬ kc z y < 0) : ¬ kc z x < 0 := by
  intro h
  have a := kc_swap x y
  have b := kc_swap y z
  have c := cb_trans x.data.toList y.data.toList z.data.toList (by show kc x y ≤ 0; omega) (by show kc y z ≤ 0; omega)
  have d : kc x z ≤ 0 := c.1
  have e := kc_swap x z
  omega
theorem kc_lt_le {x y : ByteArray} (h : kc x y < 0) : ¬ kc y x < 0 := by have := kc_swap x y; omega
theorem look_append (k : ByteArray) : ∀ (A B : List A2), look k (A ++ B) = (look k A).or (look k B)
  | [], B => rfl
  | q :: r, B => by
    rw [List.cons_append, look, look]
    by_cases h : q.1 = k
    · rw [if_pos h, if_pos h]; rfl
    · rw [if_neg h, if_neg h]; exact look_append k r B
theorem look_some_mem {k : ByteArray} {v : P3} {L : List A2} (h : look k L = some v) : ∃ q ∈ L, q.1 = k := ⟨_, look_mem h, rfl⟩
theorem SL.refl (L : List A2) : SL L L := ⟨fun _ => rfl, List.Perm.refl _⟩
theorem SL.trans {L M N : List A2} (h : SL L M) (h' : SL M N) : SL L N := ⟨fun k => (h'.lk k).trans (h.lk k), h'.perm.trans h.perm⟩
theorem SL.append {A A' B B' : List A2} (h : SL A A') (h' : SL B B') : SL (A ++ B) (A' ++ B') :=
  ⟨fun k => by rw [look_append, look_append, h.lk, h'.lk], h.perm.append h'.perm⟩
/-- Two neighbouring pieces with no key in common may be exchanged. -/
theorem SL.swap {A B : List A2} (h : ∀ x ∈ A, ∀ y ∈ B, x.1 ≠ y.1) : SL (A ++ B) (B ++ A) := by
  refine ⟨fun k => ?_, List.perm_append_comm⟩
  rw [look_append, look_append]
  cases ha : look k A with
  | none => cases look k B <;> rfl
  | some v =>
    cases hb : look k B with
    | none => rfl
    | some u =>
      obtain ⟨x, hx, ex⟩ := look_some_mem ha
      obtain ⟨y, hy, ey⟩ := look_some_mem hb
      exact absurd (ex.trans ey.symm) (h x hx y hy)
theorem SL.mem {L M : List A2} (h : SL L M) {x : A2} : x ∈ M ↔ x ∈ L := h.perm.mem_iff
theorem srt_append {A B : List A2} : Srt (A ++ B) ↔ Srt A ∧ Srt B ∧ ∀ x ∈ A, ∀ y ∈ B, ¬ kc y.1 x.1 < 0 := List.pairwise_append
/-- The two halves of a symmetric merge, each merged, are the merge. -/
theorem merge_halves {A1 A2' B1 B2 M1 M2 : List A2} (hA : Srt (A1 ++ A2')) (hB : Srt (B1 ++ B2)) (h1 : ∀ x ∈ A1, ∀ y ∈ B2, ¬ kc y.1 x.1 < 0) (h2 : ∀ x ∈ A2', ∀ y ∈ B1, kc y.1 x.1 < 0)
    (s1 : SL (A1 ++ B1) M1) (s2 : SL (A2' ++ B2) M2) (r1 : Srt M1) (r2 : Srt M2) : SL ((A1 ++ A2') ++ (B1 ++ B2)) (M1 ++ M2) ∧ Srt (M1 ++ M2) := by
  obtain ⟨a1, a2, a3⟩ := srt_append.1 hA
  obtain ⟨b1, b2, b3⟩ := srt_append.1 hB
  refine ⟨?_, srt_append.2 ⟨r1, r2, fun x hx y hy => ?_⟩⟩
  · have sw : SL (A2' ++ B1) (B1 ++ A2') := SL.swap fun x hx y hy e => kc_ne (h2 x hx y hy) e.symm
    have e : SL ((A1 ++ A2') ++ (B1 ++ B2)) ((A1 ++ B1) ++ (A2' ++ B2)) := by
      have := (SL.refl A1).append (sw.append (SL.refl B2))
      simpa [List.append_assoc] using this
    exact e.trans (s1.append s2)
  · rcases List.mem_append.1 (s1.mem.1 hx) with hx | hx <;> rcases List.mem_append.1 (s2.mem.1 hy) with hy | hy
    · exact a3 x hx y hy
    · exact h1 x hx y hy
    · exact kc_lt_le (h2 y hy x hx)
    · exact b3 x hx y hy
/-- One pair put into a list that doesn't fall: ahead of the pairs with its key or a greater one (first), or behind those with its key or a lesser one (last). -/
theorem put_first {q : A2} {B1 B2 : List A2} (hB : Srt (B1 ++ B2)) (h1 : ∀ y ∈ B1, kc y.1 q.1 < 0) (h2 : ∀ y ∈ B2, ¬ kc y.1 q.1 < 0) : SL (q :: (B1 ++ B2)) (B1 ++ q :: B2) ∧ Srt (B1 ++ q :: B2) := by
  obtain ⟨b1, b2, b3⟩ := srt_append.1 hB
  refine ⟨?_, srt_append.2 ⟨b1, List.pairwise_cons.2 ⟨h2, b2⟩, fun x hx y hy => ?_⟩⟩
  · have sw : SL ([q] ++ B1) (B1 ++ [q]) := SL.swap fun x hx y hy e => by
      obtain rfl := List.mem_singleton.1 hx
      exact kc_ne (h1 y hy) e.symm
    have := sw.append (SL.refl B2)
    simpa [List.append_assoc] using this
  · rcases List.mem_cons.1 hy with rfl | hy
    · exact kc_lt_le (h1 x hx)
    · exact b3 x hx y hy
theorem put_last {q : A2} {A1 A2' : List A2} (hA : Srt (A1 ++ A2')) (h1 : ∀ x ∈ A1, ¬ kc q.1 x.1 < 0) (h2 : ∀ x ∈ A2', kc q.1 x.1 < 0) : SL ((A1 ++ A2') ++ [q]) (A1 ++ q :: A2') ∧ Srt (A1 ++ q :: A2') := by
  obtain ⟨a1, a2, a3⟩ := srt_append.1 hA
  refine ⟨?_, srt_append.2 ⟨a1, List.pairwise_cons.2 ⟨fun y hy => kc_lt_le (h2 y hy), a2⟩, fun x hx y hy => ?_⟩⟩
  · have sw : SL (A2' ++ [q]) ([q] ++ A2') := SL.swap fun x hx y hy e => by
      obtain rfl := List.mem_singleton.1 hy
      exact kc_ne (h2 x hx) e.symm
    have := (SL.refl A1).append sw
    simpa [List.append_assoc] using this
  · rcases List.mem_cons.1 hy with rfl | hy
    · exact h1 x hx
    · exact a3 x hx y hy
/-- What is left when of neighbours with one key the first is kept. -/
def firsts : List A2 → List A2
  | [] => []
  | [q] => [q]
  | q :: r :: t => if q.1 = r.1 then firsts (q :: t) else q :: firsts (r :: t)
termination_by L => L.length
theorem firsts_mem : ∀ (n : Nat) (L : List A2), L.length ≤ n → ∀ x ∈ firsts L, x ∈ L
  | _, [], _, x, h => by rw [firsts] at h; exact h
  | _, [q], _, x, h => by rw [firsts] at h; exact h
  | 0, q :: r :: t, hn, x, h => by simp at hn
  | n + 1, q :: r :: t, hn, x, h => by
    rw [firsts] at h
    split at h
    · have := firsts_mem n (q :: t) (by simp at hn ⊢; omega) x h
      rcases List.mem_cons.1 this with rfl | h'
      · exact List.mem_cons_self ..
      · exact List.mem_cons_of_mem _ (List.mem_cons_of_mem _ h')
    · rcases List.mem_cons.1 h with rfl | h
      · exact List.mem_cons_self ..
      · exact List.mem_cons_of_mem _ (firsts_mem n (r :: t) (by simp at hn ⊢; omega) x h)
theorem firsts_ok : ∀ (n : Nat) (L : List A2), L.length ≤ n → Srt L → Up (firsts L) ∧ (∀ k, look k (firsts L) = look k L)
  | _, [], _, _ => by rw [firsts]; exact ⟨List.Pairwise.nil, fun _ => rfl⟩
  | _, [q], _, _ => by rw [firsts]; exact ⟨List.pairwise_singleton _ _, fun _ => rfl⟩
  | 0, q :: r :: t, hn, _ => by simp at hn
  | n + 1, q :: r :: t, hn, hs => by
    have hq : ∀ x ∈ r :: t, ¬ kc x.1 q.1 < 0 := fun x hx => List.rel_of_pairwise_cons hs hx
    have hs2 := List.Pairwise.of_cons hs
    rw [firsts]
    by_cases he : q.1 = r.1
    · rw [if_pos he]
      obtain ⟨h1, h2⟩ := firsts_ok n (q :: t) (by simp at hn ⊢; omega) (List.pairwise_cons.2 ⟨fun x hx => hq x (List.mem_cons_of_mem _ hx), List.Pairwise.of_cons hs2⟩)
      refine ⟨h1, fun k => ?_⟩
      rw [h2, look, look, look]
      by_cases hk : q.1 = k
      · rw [if_pos hk, if_pos hk]
      · rw [if_neg hk, if_neg hk, if_neg (by rw [← he]; exact hk)]
    · rw [if_neg he]
      obtain ⟨h1, h2⟩ := firsts_ok n (r :: t) (by simp at hn ⊢; omega) hs2
      have hr := hq r (List.mem_cons_self ..)
      have hlt : kc q.1 r.1 < 0 := kc_gt hr fun h => he (kc_zero.1 h).symm
      refine ⟨List.pairwise_cons.2 ⟨fun x hx => ?_, h1⟩, fun k => ?_⟩
      · rcases List.mem_cons.1 (firsts_mem _ (r :: t) (Nat.le_refl _) x hx) with rfl | hx
        · exact hlt
        · have h3 := List.rel_of_pairwise_cons hs2 hx
          by_cases h4 : kc r.1 x.1 = 0
          · rw [← kc_zero.1 h4]; exact hlt
          · exact kc_lt hlt (kc_gt h3 fun h => h4 (by have := kc_swap x.1 r.1; omega))
      · rw [look, h2]
        conv => rhs; rw [look]
/-- A list sorted so, its neighbours' firsts: they are the one rising list with these first values. -/
theorem firsts_one {L M N : List A2} (h : SL L M) (hs : Srt M) (hN : Up N) (hl : ∀ k, look k N = look k L) : firsts M = N :=
  up_ext (firsts_ok _ M (Nat.le_refl _) hs).1 hN fun k => ((firsts_ok _ M (Nat.le_refl _) hs).2 k).trans ((h.lk k).trans (hl k).symm)
end Go.Proofs.YtigmhbgdnmkooaaDoor
