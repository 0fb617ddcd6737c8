/- Lists of pairs as plain lists: rising ones are told by their look-ups; joined key by key; what three, two and undone joins make. Of no program. -/
import Derived.Test.YtplnojapnaaakaaGreatDoorPOwn
import Derived.Test.YtplnojapnaaakaaGreatDoorPDg
import Derived.Test.YtplnojapnaaakaaGreatDoorPVs
namespace Go.Proofs.YtplnojapnaaakaaGreatDoor
open Go Go.RowKit Go.Lib
set_option linter.unusedVariables false
/-- A pair: a key and a value. -/
abbrev A2 : Type := ByteArray × P3
def z0 : P3 := (0, 0, ⟨#[]⟩)
def kc (x y : ByteArray) : Int := compareBytes x.data.toList y.data.toList
theorem kc_range (x y : ByteArray) : kc x y = -1 ∨ kc x y = 0 ∨ kc x y = 1 := cb_range _ _
theorem kc_swap (x y : ByteArray) : kc y x = - kc x y := cb_swap _ _
theorem kc_zero {x y : ByteArray} : kc x y = 0 ↔ x = y := by
  unfold kc; rw [cb_zero]
  exact ⟨fun h => ByteArray.ext (Array.ext' h), fun h => by rw [h]⟩
theorem kc_self (x : ByteArray) : kc x x = 0 := kc_zero.2 rfl
theorem kc_lt {x y z : ByteArray} (h1 : kc x y < 0) (h2 : kc y z < 0) : kc x z < 0 := (cb_trans _ _ _ (Int.le_of_lt h1) (Int.le_of_lt h2)).2.1 h1
theorem kc_ne {x y : ByteArray} (h : kc x y < 0) : x ≠ y := fun e => by rw [e, kc_self] at h; omega
theorem kc_gt {x y : ByteArray} (h1 : ¬ kc x y < 0) (h2 : ¬ kc x y = 0) : kc y x < 0 := by
  have := kc_swap x y
  rcases kc_range x y with h | h | h <;> omega

/-- Rising by keys. -/
def Up (L : List A2) : Prop := L.Pairwise fun x y => kc x.1 y.1 < 0
def look (k : ByteArray) : List A2 → Option P3
  | [] => none
  | q :: r => if q.1 = k then some q.2 else look k r
theorem look_none {k : ByteArray} : ∀ {L : List A2}, (∀ q ∈ L, q.1 ≠ k) → look k L = none
  | [], _ => rfl
  | q :: r, h => by
    rw [look, if_neg (h q (by simp))]
    exact look_none fun x hx => h x (by simp [hx])
theorem look_above {k : ByteArray} {L : List A2} (h : ∀ q ∈ L, kc k q.1 < 0) : look k L = none := look_none fun q hq e => kc_ne (h q hq) e.symm
theorem look_mem {k : ByteArray} {v : P3} : ∀ {L : List A2}, look k L = some v → (k, v) ∈ L
  | [], h => by cases h
  | q :: r, h => by
    rw [look] at h
    by_cases e : q.1 = k
    · rw [if_pos e] at h
      obtain rfl := Option.some.inj h
      subst e
      exact List.mem_cons_self ..
    · rw [if_neg e] at h
      exact List.mem_cons_of_mem _ (look_mem h)
theorem mem_look {k : ByteArray} {v : P3} : ∀ {L : List A2}, Up L → (k, v) ∈ L → look k L = some v
  | [], _, h => by cases h
  | q :: r, hu, h => by
    rw [look]
    rcases List.mem_cons.1 h with rfl | h
    · rw [if_pos rfl]
    · have := List.rel_of_pairwise_cons hu h
      rw [if_neg (kc_ne this)]
      exact mem_look (List.Pairwise.of_cons hu) h
theorem up_ext : ∀ {A B : List A2}, Up A → Up B → (∀ k, look k A = look k B) → A = B
  | [], [], _, _, _ => rfl
  | [], y :: b, _, _, h => by have := h y.1; rw [look, look, if_pos rfl] at this; cases this
  | x :: a, [], _, _, h => by have := h x.1; rw [look, look, if_pos rfl] at this; cases this
  | x :: a, y :: b, hA, hB, h => by
    have ha : ∀ q ∈ a, kc x.1 q.1 < 0 := fun q hq => List.rel_of_pairwise_cons hA hq
    have hb : ∀ q ∈ b, kc y.1 q.1 < 0 := fun q hq => List.rel_of_pairwise_cons hB hq
    by_cases h1 : kc x.1 y.1 < 0
    · exfalso
      have := h x.1
      rw [look, if_pos rfl, look_above (L := y :: b) (fun q hq => by
        rcases List.mem_cons.1 hq with rfl | hq
        · exact h1
        · exact kc_lt h1 (hb q hq))] at this
      cases this
    · by_cases h2 : kc x.1 y.1 = 0
      · have e := kc_zero.1 h2
        have hv := h x.1
        rw [look, if_pos rfl, look, if_pos e.symm] at hv
        have hxy : x = y := Prod.ext e (Option.some.inj hv)
        subst hxy
        congr 1
        refine up_ext (List.Pairwise.of_cons hA) (List.Pairwise.of_cons hB) fun k => ?_
        by_cases hk : x.1 = k
        · subst hk
          rw [look_above ha, look_above hb]
        · have := h k
          rwa [look, if_neg hk, look, if_neg hk] at this
      · exfalso
        have h3 := kc_gt h1 h2
        have := h y.1
        rw [look_above (L := x :: a) (fun q hq => by
          rcases List.mem_cons.1 hq with rfl | hq
          · exact h3
          · exact kc_lt h3 (ha q hq)), look, if_pos rfl] at this
        cases this

def putO (k : ByteArray) : Option P3 → List A2
  | none => []
  | some v => [(k, v)]
def joinL (f : Option P3 → Option P3 → Option P3) : List A2 → List A2 → List A2
  | [], [] => []
  | x :: a, [] => putO x.1 (f (some x.2) none) ++ joinL f a []
  | [], y :: b => putO y.1 (f none (some y.2)) ++ joinL f [] b
  | x :: a, y :: b =>
    if kc x.1 y.1 < 0 then putO x.1 (f (some x.2) none) ++ joinL f a (y :: b)
    else if kc x.1 y.1 = 0 then putO x.1 (f (some x.2) (some y.2)) ++ joinL f a b
    else putO y.1 (f none (some y.2)) ++ joinL f (x :: a) b
termination_by a b => a.length + b.length

theorem putO_key {k : ByteArray} {o : Option P3} {q : A2} (h : q ∈ putO k o) : q.1 = k ∧ o = some q.2 := by
  cases o with
  | none => cases h
  | some v => obtain rfl := List.mem_singleton.1 h; exact ⟨rfl, rfl⟩
theorem join_keys (f : Option P3 → Option P3 → Option P3) (a b : List A2) : ∀ q ∈ joinL f a b, (∃ x ∈ a, x.1 = q.1) ∨ (∃ y ∈ b, y.1 = q.1) := by
  induction a, b using joinL.induct with
  | case1 => intro q h; rw [joinL] at h; cases h
  | case2 x a ih =>
    intro q h; rw [joinL] at h
    rcases List.mem_append.1 h with h | h
    · exact Or.inl ⟨x, List.mem_cons_self .., (putO_key h).1.symm⟩
    · rcases ih q h with ⟨y, hy, e⟩ | ⟨y, hy, e⟩
      · exact Or.inl ⟨y, List.mem_cons_of_mem _ hy, e⟩
      · cases hy
  | case3 y b ih =>
    intro q h; rw [joinL] at h
    rcases List.mem_append.1 h with h | h
    · exact Or.inr ⟨y, List.mem_cons_self .., (putO_key h).1.symm⟩
    · rcases ih q h with ⟨y, hy, e⟩ | ⟨y, hy, e⟩
      · cases hy
      · exact Or.inr ⟨y, List.mem_cons_of_mem _ hy, e⟩
  | case4 x a y b h1 ih =>
    intro q h; rw [joinL, if_pos h1] at h
    rcases List.mem_append.1 h with h | h
    · exact Or.inl ⟨x, List.mem_cons_self .., (putO_key h).1.symm⟩
    · rcases ih q h with ⟨y, hy, e⟩ | ⟨y, hy, e⟩
      · exact Or.inl ⟨y, List.mem_cons_of_mem _ hy, e⟩
      · exact Or.inr ⟨y, hy, e⟩
  | case5 x a y b h1 h2 ih =>
    intro q h; rw [joinL, if_neg h1, if_pos h2] at h
    rcases List.mem_append.1 h with h | h
    · exact Or.inl ⟨x, List.mem_cons_self .., (putO_key h).1.symm⟩
    · rcases ih q h with ⟨y, hy, e⟩ | ⟨y, hy, e⟩
      · exact Or.inl ⟨y, List.mem_cons_of_mem _ hy, e⟩
      · exact Or.inr ⟨y, List.mem_cons_of_mem _ hy, e⟩
  | case6 x a y b h1 h2 ih =>
    intro q h; rw [joinL, if_neg h1, if_neg h2] at h
    rcases List.mem_append.1 h with h | h
    · exact Or.inr ⟨y, List.mem_cons_self .., (putO_key h).1.symm⟩
    · rcases ih q h with ⟨y, hy, e⟩ | ⟨y, hy, e⟩
      · exact Or.inl ⟨y, hy, e⟩
      · exact Or.inr ⟨y, List.mem_cons_of_mem _ hy, e⟩
theorem up_put {k : ByteArray} {o : Option P3} {L : List A2} (hL : Up L) (h : ∀ q ∈ L, kc k q.1 < 0) : Up (putO k o ++ L) := by
  cases o with
  | none => exact hL
  | some v => exact List.pairwise_cons.2 ⟨h, hL⟩
theorem look_put {k : ByteArray} {o : Option P3} {L : List A2} (h : ∀ q ∈ L, kc k q.1 < 0) (j : ByteArray) : look j (putO k o ++ L) = if k = j then o else look j L := by
  by_cases e : k = j
  · subst e
    rw [if_pos rfl]
    cases o with
    | none => exact look_above h
    | some v => show look k ((k, v) :: L) = _; rw [look, if_pos rfl]
  · rw [if_neg e]
    cases o with
    | none => rfl
    | some v => show look j ((k, v) :: L) = _; rw [look, if_neg e]
/-- At a key: what the two lists have for it. -/
def at2 (f : Option P3 → Option P3 → Option P3) : Option P3 → Option P3 → Option P3
  | none, none => none
  | a, b => f a b
theorem join_above {f : Option P3 → Option P3 → Option P3} {k : ByteArray} {a b : List A2} (ha : ∀ q ∈ a, kc k q.1 < 0) (hb : ∀ q ∈ b, kc k q.1 < 0) : ∀ q ∈ joinL f a b, kc k q.1 < 0 := fun q hq => by
  rcases join_keys f a b q hq with ⟨x, hx, e⟩ | ⟨x, hx, e⟩
  · rw [← e]; exact ha x hx
  · rw [← e]; exact hb x hx
theorem join_both (f : Option P3 → Option P3 → Option P3) (a b : List A2) : Up a → Up b → Up (joinL f a b) ∧ ∀ k, look k (joinL f a b) = at2 f (look k a) (look k b) := by
  induction a, b using joinL.induct with
  | case1 => intro _ _; rw [joinL]; exact ⟨List.Pairwise.nil, fun k => rfl⟩
  | case2 x a ih =>
    intro ha hb; rw [joinL]
    have hx : ∀ q ∈ a, kc x.1 q.1 < 0 := fun q hq => List.rel_of_pairwise_cons ha hq
    obtain ⟨h1, h2⟩ := ih (List.Pairwise.of_cons ha) hb
    have h3 := join_above (f := f) hx (b := []) (by simp)
    refine ⟨up_put h1 h3, fun k => ?_⟩
    rw [look_put h3, look.eq_2 k x a]
    by_cases e : x.1 = k
    · rw [if_pos e, if_pos e]; rfl
    · rw [if_neg e, if_neg e]; exact h2 k
  | case3 y b ih =>
    intro ha hb; rw [joinL]
    have hx : ∀ q ∈ b, kc y.1 q.1 < 0 := fun q hq => List.rel_of_pairwise_cons hb hq
    obtain ⟨h1, h2⟩ := ih ha (List.Pairwise.of_cons hb)
    have h3 := join_above (f := f) (a := []) (by simp) hx
    refine ⟨up_put h1 h3, fun k => ?_⟩
    rw [look_put h3, look, look]
    by_cases e : y.1 = k
    · rw [if_pos e, if_pos e]; rfl
    · rw [if_neg e, if_neg e]; exact h2 k
  | case4 x a y b c1 ih =>
    intro ha hb; rw [joinL, if_pos c1]
    have hx : ∀ q ∈ a, kc x.1 q.1 < 0 := fun q hq => List.rel_of_pairwise_cons ha hq
    have hy : ∀ q ∈ y :: b, kc x.1 q.1 < 0 := fun q hq => by
      rcases List.mem_cons.1 hq with rfl | hq
      · exact c1
      · exact kc_lt c1 (List.rel_of_pairwise_cons hb hq)
    obtain ⟨h1, h2⟩ := ih (List.Pairwise.of_cons ha) hb
    have h3 := join_above (f := f) hx hy
    refine ⟨up_put h1 h3, fun k => ?_⟩
    rw [look_put h3]
    by_cases e : x.1 = k
    · subst e
      rw [if_pos rfl, look_above hy, look, if_pos rfl]; rfl
    · rw [if_neg e, h2 k]
      conv => rhs; rw [look, if_neg e]
  | case5 x a y b c1 c2 ih =>
    intro ha hb; rw [joinL, if_neg c1, if_pos c2]
    have e0 := kc_zero.1 c2
    have hx : ∀ q ∈ a, kc x.1 q.1 < 0 := fun q hq => List.rel_of_pairwise_cons ha hq
    have hy : ∀ q ∈ b, kc x.1 q.1 < 0 := fun q hq => by rw [e0]; exact List.rel_of_pairwise_cons hb hq
    obtain ⟨h1, h2⟩ := ih (List.Pairwise.of_cons ha) (List.Pairwise.of_cons hb)
    have h3 := join_above (f := f) hx hy
    refine ⟨up_put h1 h3, fun k => ?_⟩
    rw [look_put h3, look, look, ← e0]
    by_cases e : x.1 = k
    · rw [if_pos e, if_pos e, if_pos e]; rfl
    · rw [if_neg e, if_neg e, if_neg e]; exact h2 k
  | case6 x a y b c1 c2 ih =>
    intro ha hb; rw [joinL, if_neg c1, if_neg c2]
    have c3 := kc_gt c1 c2
    have hy : ∀ q ∈ b, kc y.1 q.1 < 0 := fun q hq => List.rel_of_pairwise_cons hb hq
    have hx : ∀ q ∈ x :: a, kc y.1 q.1 < 0 := fun q hq => by
      rcases List.mem_cons.1 hq with rfl | hq
      · exact c3
      · exact kc_lt c3 (List.rel_of_pairwise_cons ha hq)
    obtain ⟨h1, h2⟩ := ih ha (List.Pairwise.of_cons hb)
    have h3 := join_above (f := f) hx hy
    refine ⟨up_put h1 h3, fun k => ?_⟩
    rw [look_put h3]
    by_cases e : y.1 = k
    · subst e
      rw [if_pos rfl, look_above hx, look, if_pos rfl]; rfl
    · rw [if_neg e, h2 k]
      conv => rhs; rw [look.eq_2 k y, if_neg e]
theorem up_join (f : Option P3 → Option P3 → Option P3) {a b : List A2} (ha : Up a) (hb : Up b) : Up (joinL f a b) := (join_both f a b ha hb).1
theorem look_join (f : Option P3 → Option P3 → Option P3) {a b : List A2} (ha : Up a) (hb : Up b) (k : ByteArray) : look k (joinL f a b) = at2 f (look k a) (look k b) := (join_both f a b ha hb).2 k
abbrev samP (p q : P3) : Bool := samB p.1 p.2.1 p.2.2 q.1 q.2.1 q.2.2
theorem samP_iff {p q : P3} : samP p q = true ↔ p = q := by
  obtain ⟨a, b, c⟩ := p
  obtain ⟨a', b', c'⟩ := q
  rw [samB_iff]
  simp
theorem samP_self (p : P3) : samP p p = true := samP_iff.2 rfl
theorem samP_ne {p q : P3} (h : p ≠ q) : samP p q = false := by
  cases e : samP p q
  · rfl
  · exact absurd (samP_iff.1 e) h
/-- What join's chooser is asked and answers. -/
abbrev Ch : Type := Bool → Bool → P3 → P3 → P3 × Bool
def fOf (ch : Ch) (x y : Option P3) : Option P3 :=
  if (ch x.isSome y.isSome (x.getD z0) (y.getD z0)).2 then some (ch x.isSome y.isSome (x.getD z0) (y.getD z0)).1 else none
def chC (nulls : Bool) : Ch := fun ia ib p q => ((if ib then q else p), nulls || !((if ib then q else p).1 == 0))
abbrev jn (ch : Ch) (a b : List A2) : List A2 := joinL (fOf ch) a b
def NoNull (L : List A2) : Prop := ∀ q ∈ L, q.2.1 ≠ 0
theorem nn_look {L : List A2} (h : NoNull L) {k : ByteArray} {v : P3} (e : look k L = some v) : v.1 ≠ 0 := h (k, v) (look_mem e)

theorem jn_len (ch : Ch) (a b : List A2) : (jn ch a b).length ≤ a.length + b.length := by
  have hp : ∀ (k : ByteArray) (o : Option P3), (putO k o).length ≤ 1 := fun k o => by cases o <;> simp [putO]
  unfold jn
  induction a, b using joinL.induct with
  | case1 => rw [joinL]; simp
  | case2 x a ih => rw [joinL, List.length_append]; have := hp x.1 (fOf ch (some x.2) none); simp at ih ⊢; omega
  | case3 y b ih => rw [joinL, List.length_append]; have := hp y.1 (fOf ch none (some y.2)); simp at ih ⊢; omega
  | case4 x a y b c1 ih => rw [joinL, if_pos c1, List.length_append]; have := hp x.1 (fOf ch (some x.2) none); simp at ih ⊢; omega
  | case5 x a y b c1 c2 ih => rw [joinL, if_neg c1, if_pos c2, List.length_append]; have := hp x.1 (fOf ch (some x.2) (some y.2)); simp at ih ⊢; omega
  | case6 x a y b c1 c2 ih => rw [joinL, if_neg c1, if_neg c2, List.length_append]; have := hp y.1 (fOf ch none (some y.2)); simp at ih ⊢; omega

theorem jn_val {ch : Ch} {a b : List A2} (ha : Up a) (hb : Up b) {q : A2} (h : q ∈ jn ch a b) : at2 (fOf ch) (look q.1 a) (look q.1 b) = some q.2 := by
  rw [← look_join _ ha hb]
  exact mem_look (up_join _ ha hb) h
theorem up_nil : Up [] := List.Pairwise.nil

theorem three2 {a : List A2} (ha : Up a) : jn (chC true) a [] = a := by
  refine up_ext (up_join _ ha up_nil) ha fun k => ?_
  rw [look_join _ ha up_nil]
  cases look k a <;> simp [at2, fOf, chC, look]
theorem three3 {a : List A2} (ha : Up a) : jn (chC true) [] a = a := by
  refine up_ext (up_join _ up_nil ha) ha fun k => ?_
  rw [look_join _ up_nil ha]
  cases look k a <;> simp [at2, fOf, chC, look]
theorem three4 {a b c : List A2} (ha : Up a) (hb : Up b) (hc : Up c) (hn : NoNull a) : jn (chC false) a (jn (chC true) b c) = jn (chC false) (jn (chC false) a b) c := by
  refine up_ext (up_join _ ha (up_join _ hb hc)) (up_join _ (up_join _ ha hb) hc) fun k => ?_
  rw [look_join _ ha (up_join _ hb hc), look_join _ hb hc, look_join _ (up_join _ ha hb) hc, look_join _ ha hb]
  cases e : look k a <;> cases look k b <;> cases look k c <;> simp [at2, fOf, chC]
  case some.none.none u => by_cases h1 : u.1 = 0 <;> simp [h1]
  all_goals (rename_i v; by_cases h1 : v.1 = 0 <;> simp [h1])
theorem nn_comp {a b : List A2} (ha : Up a) (hb : Up b) : NoNull (jn (chC false) a b) := fun q hq => by
  have h := jn_val ha hb hq
  revert h
  cases look q.1 a <;> cases look q.1 b <;> simp [at2, fOf, chC] <;> (intro h1 h2; rw [← h2]; exact h1)
end Go.Proofs.YtplnojapnaaakaaGreatDoor
