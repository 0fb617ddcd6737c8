/- The document's answers of the attrs' calls as joins. What vellumref03.Between answers. What vellumref03.Compose, Apply, Diff, Invert and Transform answer. The mark behind a list's end. vellumhand.Attrs and Kept. What scalars.Len and scalars.Cut answer (parts of Sca.tpl and Cut.tpl, over a list of sentinels). Operations as plain data; what an insert is refused with. content.checkFields and Marked.Attributes. content.Of: an insert as a piece. What vellumref04.SameAttrs, content.Same and vellumref04.Same answer. Rows of cells as they lie in memory. Rows of operations as they lie in memory. What vellumspare.Copy makes: operations with spare room; what writing over them leaves. -/
import Derived.Test.YtigmhbgdnmkooaaDoorRl
import Derived.Test.YtigmhbgdnmkooaaDoorRj
import Derived.Deep.DeepCutAuto
import Derived.Test.YtigmhbgdnmkooaaDoorPa
import Derived.Test.YtigmhbgdnmkooaaDoorVf
import Derived.Test.YtigmhbgdnmkooaaDoorPos
import Derived.Laws.RangeString
import Derived.Laws.RangeAny
import Derived.Deep.RegionWith
import Derived.Test.YtigmhbgdnmkooaaDoorPc
import Derived.Test.YtigmhbgdnmkooaaDoorJp
import Derived.Test.YtigmhbgdnmkooaaDoorAx
import Derived.BigQuiet
import Derived.Test.YtigmhbgdnmkooaaDoorSm
import Derived.Deep.DeepBigQuietO
import Derived.Laws.OwnMore
import Derived.Laws.AppendOwnNone
import Derived.OneCell
import Derived.Maps.AppendAt

/- The document's answers of the attrs' calls as joins. -/
namespace Go.Proofs.YtigmhbgdnmkooaaDoor
open Go Go.RowKit Go.Lib
set_option linter.unusedVariables false

def fm (g : A2 → Option P3) (L : List A2) : List A2 := L.filterMap fun x => (g x).map fun v => (x.1, v)
theorem fm_mem {g : A2 → Option P3} {L : List A2} {q : A2} (h : q ∈ fm g L) : ∃ x ∈ L, x.1 = q.1 ∧ g x = some q.2 := by
  obtain ⟨x, hx, e⟩ := List.mem_filterMap.1 h
  obtain ⟨v, hv, rfl⟩ := Option.map_eq_some_iff.1 e
  exact ⟨x, hx, rfl, hv⟩
theorem up_fm {g : A2 → Option P3} {L : List A2} (h : Up L) : Up (fm g L) := by
  unfold fm
  refine List.Pairwise.filterMap _ (R := fun x y : A2 => kc x.1 y.1 < 0) (S := fun x y : A2 => kc x.1 y.1 < 0) (fun a a' hr b hb b' hb' => ?_) h
  obtain ⟨v, hv, rfl⟩ := Option.map_eq_some_iff.1 hb
  obtain ⟨v', hv', rfl⟩ := Option.map_eq_some_iff.1 hb'
  exact hr
theorem look_fm {g : A2 → Option P3} (k : ByteArray) : ∀ {L : List A2}, Up L → look k (fm g L) = (look k L).bind fun v => g (k, v)
  | [], _ => rfl
  | (j, u) :: L, h => by
    have ih := look_fm (g := g) k (L := L) (List.Pairwise.of_cons h)
    have hc : fm g ((j, u) :: L) = ((g (j, u)).map fun v => (j, v)).toList ++ fm g L := by
      unfold fm
      rw [List.filterMap_cons]
      cases g (j, u) <;> rfl
    rw [hc, look]
    by_cases e : j = k
    · subst e
      rw [if_pos rfl]
      have h0 : look j L = none := look_above fun q hq => List.rel_of_pairwise_cons h hq
      rw [h0] at ih
      cases e2 : g (j, u) with
      | none => simp only [Option.map_none, Option.toList_none, List.nil_append, ih]; exact e2.symm
      | some v => show look j ((j, v) :: fm g L) = _; rw [look, if_pos rfl]; exact e2.symm
    · rw [if_neg (show ¬ (j, u).1 = k from e), ← ih]
      cases e2 : g (j, u) with
      | none => rfl
      | some v => show look k ((j, v) :: fm g L) = _; rw [look, if_neg (show ¬ (j, v).1 = k from e)]
theorem filter_fm (p : A2 → Bool) (L : List A2) : L.filter p = fm (fun q => if p q then some q.2 else none) L := by
  unfold fm
  induction L with
  | nil => rfl
  | cons q L ih =>
    rw [List.filter_cons, List.filterMap_cons, ih]
    by_cases h : p q = true <;> simp [h]
theorem whole_eq {a b : List A2} (ha : Up a) (hb : Up b) : wholeL (jn (chC true) a b) = jn (chC false) a b := by
  unfold wholeL
  rw [filter_fm]
  refine up_ext (up_fm (up_join _ ha hb)) (up_join _ ha hb) fun k => ?_
  rw [look_fm k (up_join _ ha hb), look_join _ ha hb, look_join _ ha hb]
  cases look k a <;> cases look k b <;> simp [at2, fOf, chC]
theorem over_eq {a b : List A2} (first : Bool) (ha : Up a) (hb : Up b) : overL a first b = jn (chT first) a b := by
  unfold overL
  rw [filter_fm]
  refine up_ext (up_fm hb) (up_join _ ha hb) fun k => ?_
  rw [look_fm k hb, look_join _ ha hb]
  cases first <;> cases e : look k a <;> cases look k b <;> simp [at2, fOf, chT, e]
theorem bet_eq {a b : List A2} (ha : Up a) (hb : Up b) : betL a b (jn (chC true) a b) = jn chD a b := by
  have e : ∀ J, betL a b J = fm (fun x => if (look x.1 a).getD z0 = (look x.1 b).getD z0 then none else some ((look x.1 b).getD z0)) J := fun J => by
    unfold betL fm
    congr 1
    funext x
    by_cases h : (look x.1 a).getD z0 = (look x.1 b).getD z0 <;> simp [h]
  rw [e]
  refine up_ext (up_fm (up_join _ ha hb)) (up_join _ ha hb) fun k => ?_
  rw [look_fm k (up_join _ ha hb), look_join _ ha hb, look_join _ ha hb]
  have hs : ∀ p q : P3, samP p q = decide (p = q) := fun p q => by
    by_cases h : p = q
    · rw [h, samP_self]; simp
    · rw [samP_ne h]; simp [h]
  cases ea : look k a <;> cases eb : look k b <;> simp [at2, fOf, chC, chD, hs, ea, eb]
theorem und_eq {s p : List A2} (hs : Up s) (hp : Up p) (ns : NoNull s) (pn : ∀ q ∈ p, q.2.1 = 0 → q.2 = z0) : jn chD (jn (chC false) s p) s = jn chI p s := by
  refine up_ext (up_join _ (up_join _ hs hp) hs) (up_join _ hp hs) fun k => ?_
  rw [look_join _ (up_join _ hs hp) hs, look_join _ hs hp, look_join _ hp hs]
  cases es : look k s with
  | none =>
    cases ep : look k p with
    | none => simp [at2]
    | some v =>
      by_cases h1 : v.1 = 0
      · have hv : v = z0 := pn (k, v) (look_mem ep) h1
        subst hv
        simp [at2, fOf, chC, chI, samP_self]; simp [z0]
      · simp [at2, fOf, chC, chI, chD, h1]
  | some u =>
    have hu := nn_look ns es
    cases ep : look k p with
    | none => simp [at2, fOf, chC, chI, chD, hu, samP_self]
    | some v =>
      by_cases h1 : v.1 = 0
      · have hv : v = z0 := pn (k, v) (look_mem ep) h1
        subst hv
        simp [at2, fOf, chC, chI, chD, h1]
      · simp [at2, fOf, chC, chI, chD, h1]
end Go.Proofs.YtigmhbgdnmkooaaDoor

/- What vellumref03.Between answers. -/
namespace Go.Proofs.YtigmhbgdnmkooaaDoor
open Go Go.RowKit Go.Lib
set_option linter.unusedVariables false

/-- Between two marks the memory stands. -/
structure Mid (c : Nat) (u w : World) : Prop where
  size : u.heap.size ≤ w.heap.size
  cell : ∀ g i, c < g → g < u.heap.size → w.cell? ⟨g, i, none⟩ = u.cell? ⟨g, i, none⟩
theorem Mid.refl (c : Nat) (u : World) : Mid c u u := ⟨Nat.le_refl _, fun _ _ _ _ => rfl⟩
theorem Mid.below {c : Nat} {u w w' : World} (h : Mid c u w) (b : Below w.heap.size w w') : Mid c u w' :=
  ⟨Nat.le_trans h.size b.size, fun g i h1 h2 => (b.cell (Nat.lt_of_lt_of_le h2 h.size)).trans (h.cell g i h1 h2)⟩
theorem Mid.alloc {c : Nat} {u w : World} (h : Mid c u w) (o : Obj) : Mid c u (w.alloc o) := h.below ((Below.refl _ _).alloc (Nat.le_refl _) o)
theorem Mid.grown {c : Nat} {u w w' : World} {row : Option Nat} (h : Mid c u w) (g : w.grownBy w' row) (hr : ∀ r, row = some r → r = c ∨ u.heap.size ≤ r) : Mid c u w' :=
  ⟨Nat.le_trans h.size g.size, fun k i h1 h2 => (World.cell?_of_block (a := ⟨k, i, none⟩) (g.block k (Nat.lt_of_lt_of_le h2 h.size) (fun e => by have := hr k e.symm; omega))).trans (h.cell k i h1 h2)⟩
theorem PairAt.mid {c : Nat} {u w : World} {b o : Nat} {q : A2} (h : PairAt u b o q) (m : Mid c u w) (hb : c < b) : PairAt w b o q :=
  ⟨(m.cell _ _ hb h.lt).trans h.c0, (m.cell _ _ hb h.lt).trans h.c1, (m.cell _ _ hb h.lt).trans h.c2, (m.cell _ _ hb h.lt).trans h.c3⟩

set_option maxHeartbeats 4000000 in
set_option maxRecDepth 100000 in
theorem bet_any (va vb : Value) (A B : List A2) (w : World) (hA : RowA w va A) (hB : RowA w vb B) (zB : ∀ m c, vb = .slice none m c → m = 0 ∧ c = 0) (uA : Up A) (uB : Up B) (hl : A.length + B.length ≤ 1048576) :
    Calls Tryd.prog 58 #[va, vb] w fun r w' => ∃ v', r = .returned v' ∧ OwnA w' w.heap.size v' (betL A B (jn (chC true) A B)) ∧ Below w.heap.size w w' := by
  obtain ⟨J, hJ⟩ : ∃ J, jn (chC true) A B = J := ⟨_, rfl⟩
  obtain ⟨n, hn⟩ : ∃ n, J.length = n := ⟨_, rfl⟩
  have hnl : n ≤ 1048576 := by have := jn_len (chC true) A B; rw [hJ, hn] at this; omega
  have HH : Hid (∀ W, Below w.heap.size w W → ∀ key, Calls Tryd.prog 14 #[va, .string key] W fun r w' => r = .returned (.tuple #[plV ((look key A).getD z0), .bool (look key A).isSome]) ∧ Below W.heap.size W w') := fun W hW key => has_any va A key W (hA.below hW) (by omega)
  have HI : Hid (∀ W, Below w.heap.size w W → ∀ key, Calls Tryd.prog 14 #[vb, .string key] W fun r w' => r = .returned (.tuple #[plV ((look key B).getD z0), .bool (look key B).isSome]) ∧ Below W.heap.size W w') := fun W hW key => has_any vb B key W (hB.below hW) (by omega)
  have HJ : Hid (∀ W, Below w.heap.size w W → Calls Tryd.prog 52 #[va, vb] W fun r w' => ∃ v', r = .returned v' ∧ OwnA w' W.heap.size v' J ∧ Below W.heap.size W w') := fun W hW => by
    rw [← hJ]
    exact join_ref va vb A B W (hA.below hW) (hB.below hW) zB uA uB hl
  obtain ⟨pa, ca, rfl, _⟩ := hA.val
  obtain ⟨pb, cb, rfl, _⟩ := hB.val
  rw [hJ]
  have HN : Hid (J.length = n) := hn
  clear hA hB zB uA uB hl hJ hn
  obtain ⟨W1, hW1⟩ : ∃ W, W = w.alloc (.cells #[] 48) := ⟨_, rfl⟩
  have o1 : OwnA W1 w.heap.size (.slice (some ⟨w.heap.size, 0, none⟩) 0 0) [] := by rw [hW1]; exact own_empty' w w.heap.size (Nat.le_refl _)
  have b1 : Below w.heap.size w W1 := by rw [hW1]; exact (Below.refl w.heap.size w).alloc (Nat.le_refl _) _
  have cJ := HJ.out W1 b1
  clear HJ
  go_enter Tryd.func58, Tryd.ntmps58
  go_wp2_with fail
  obtain ⟨v0, hv0⟩ : ∃ v0 : Value, v0 = .slice (some ⟨w.heap.size, 0, none⟩) 0 0 := ⟨_, rfl⟩
  rw [← hv0] at o1 ⊢
  rw [← hW1]
  have hsz : W1.heap.size = w.heap.size + 1 := by rw [hW1]; simp
  have kE : ∀ g, v0.ownBlock = some g → g = w.heap.size := fun g hg => by rw [hv0] at hg; exact (Option.some.inj hg).symm
  clear hv0 hW1
  refine cJ.mono ?_; rintro r w2 ⟨vj, rfl, oj, b2⟩
  have bE := b1.trans (b2.mono b1.size)
  have oE : OwnA w2 w.heap.size v0 [] := owns_below o1 b2
  have rJ := own_rowA oj
  have kJ : ∀ g, vj.ownBlock = some g → w.heap.size < g := fun g hg => by
    have h1 := (owns_block oj g hg).1
    have h2 : W1.heap.size = w.heap.size + 1 := hsz
    omega
  clear cJ o1 b1 b2 oj hsz
  obtain ⟨pj, cj, rfl, hcj, hc⟩ := rJ
  rw [HN.out] at hcj kJ ⊢
  have HC : Hid (∀ (j : Nat) (q : A2), J[j]? = some q → ∃ b off, pj = some ⟨b, off, none⟩ ∧ w.heap.size < b ∧ PairAt w2 b (off + j * 4) q) := fun j q hq => by
    obtain ⟨b, off, rfl, h⟩ := hc j q hq
    exact ⟨b, off, rfl, kJ b rfl, h⟩
  clear hc kJ
  go_wp2_with fail
  go_loopw [5, 17] (fun out i wr => ∃ k : Nat, k ≤ n ∧ i = .int .i64 k ∧ OwnA wr w.heap.size out (betL A B (J.take k)) ∧ Below w.heap.size w wr ∧ Hid (Mid w.heap.size w2 wr) ∧ Hid (∀ g, out.ownBlock = some g → g = w.heap.size ∨ w2.heap.size ≤ g)) (fun _ i _ => n - (RowKit.intOf i).toNat)
  case atStart => exact ⟨0, Nat.zero_le _, rfl, oE, bE, Mid.refl _ _, fun g hg => Or.inl (kE g hg)⟩
  case round =>
    obtain ⟨k, hk, rfl, own, bw, bv, kv⟩ := hrel
    clear oE bE kE
    by_cases hlt : k < n
    · have hltI : (k : Int) < n := by omega
      obtain ⟨q, hq⟩ : ∃ q, J[k]? = some q := ⟨_, List.getElem?_eq_getElem (by rw [HN.out]; exact hlt)⟩
      obtain ⟨b, off, rfl, hbb, hp⟩ := HC.out k q hq
      obtain ⟨c0, c1, c2, c3⟩ := hp.mid bv.out hbb
      clear hbb
      obtain ⟨qk, qx, qn, qt⟩ := q
      simp only at c0 c1 c2 c3
      have hlen : Hid ((betL A B (J.take k)).length ≤ 1048676) := by show _ ≤ _; have h1 := (show (betL A B (J.take k)).length ≤ (J.take k).length from List.length_filterMap_le _ _); rw [List.length_take] at h1; omega
      have HO : Hid (OwnA wr w.heap.size u5 (betL A B (J.take k))) := own
      have HS := filterMap_step (p := fun x : A2 => if (look x.1 A).getD z0 = (look x.1 B).getD z0 then none else some (x.1, (look x.1 B).getD z0)) (L := J) (k := k) hq
      clear hp hq own
      have cH := fun W (hW : Below w.heap.size w W) => HH.out W hW qk
      have cI := fun W (hW : Below w.heap.size w W) => HI.out W hW qk
      obtain ⟨T, hT⟩ : ∃ T, (look qk A).isSome = T := ⟨_, rfl⟩
      obtain ⟨T', hT'⟩ : ∃ T, (look qk B).isSome = T := ⟨_, rfl⟩
      obtain ⟨P, hP⟩ : ∃ P, (look qk A).getD z0 = P := ⟨_, rfl⟩
      obtain ⟨R, hR⟩ : ∃ R, (look qk B).getD z0 = R := ⟨_, rfl⟩
      rw [hT, hP] at cH
      rw [hT', hR] at cI
      simp only [hP, hR] at HS
      have HS' : Hid (betL A B (J.take (k + 1)) = betL A B (J.take k) ++ (if P = R then none else some (qk, R)).toList) := HS
      clear HS hT hT' hP hR
      obtain ⟨p1, p2, p3⟩ := P
      obtain ⟨r1, r2, r3⟩ := R
      obtain ⟨E, hE⟩ : ∃ E, wr.heap.size = E := ⟨_, rfl⟩
      go_wp2_with fail
      obtain ⟨W3, hW3⟩ : ∃ W, W = wr.alloc (.cells #[.string qk, .int .i64 qx, .int .i64 qn, .string qt] 48) := ⟨_, rfl⟩
      have b3 : Below w.heap.size w W3 := by rw [hW3]; exact bw.alloc bw.size _
      have v3 : Hid (Mid w.heap.size w2 W3) := by rw [hW3]; exact bv.out.alloc _
      have p3' : PairAt W3 E 0 (qk, qx, qn, qt) := by rw [hW3, ← hE]; exact ⟨by simp, by simp, by simp, by simp⟩
      have O3 : Hid (OwnA W3 w.heap.size u5 (betL A B (J.take k))) := by rw [hW3]; exact owns_below HO.out ((Below.refl _ _).alloc (Nat.le_refl _) _)
      rw [← hW3]
      clear hW3 hE HO c0 c1 c2 c3 bw bv
      refine (cH _ b3).mono ?_; rintro r w4 ⟨rfl, b4⟩
      clear cH
      have p4 := p3'.below b4
      have O4 : Hid (OwnA w4 w.heap.size u5 (betL A B (J.take k))) := owns_below O3.out b4
      have b5 := b3.trans (b4.mono b3.size)
      have v5 : Hid (Mid w.heap.size w2 w4) := v3.out.below b4
      clear b3 v3 p3' O3 b4
      obtain ⟨F, hF⟩ : ∃ F, w4.heap.size = F := ⟨_, rfl⟩
      have e0 := p4.c0
      have hEF : E < F := by rw [← hF]; exact lt_of_cell e0
      have f1 : ¬ E = F := by omega
      have f2 : ¬ F = E := by omega
      obtain ⟨W5, hW5⟩ : ∃ W, W = w4.alloc (.cells #[.int .i64 p1, .int .i64 p2, .string p3] 36) := ⟨_, rfl⟩
      have b6 : Below w.heap.size w W5 := by rw [hW5]; exact b5.alloc b5.size _
      have v6 : Hid (Mid w.heap.size w2 W5) := by rw [hW5]; exact v5.out.alloc _
      have p6 : PairAt W5 E 0 (qk, qx, qn, qt) := by rw [hW5]; exact p4.below ((Below.refl _ _).alloc (Nat.le_refl _) _)
      have x0 : (w4.alloc (.cells #[.int .i64 p1, .int .i64 p2, .string p3] 36)).cell? ⟨E, 0, none⟩ = some (.string qk) := by rw [← hW5]; exact p6.c0
      have O6 : Hid (OwnA W5 w.heap.size u5 (betL A B (J.take k))) := by rw [hW5]; exact owns_below O4.out ((Below.refl _ _).alloc (Nat.le_refl _) _)
      have P6 : Hid (W5.cell? ⟨F, 0, none⟩ = some (.int .i64 p1) ∧ W5.cell? ⟨F, 1, none⟩ = some (.int .i64 p2) ∧ W5.cell? ⟨F, 2, none⟩ = some (.string p3)) := by rw [hW5, ← hF]; exact ⟨by simp, by simp, by simp⟩
      clear p4 O4 b5 v5
      go_wp2_with fail
      rw [← hW5]
      clear hW5 x0 e0 hF
      refine (cI _ b6).mono ?_; rintro r w7 ⟨rfl, b7⟩
      clear cI
      have p7 := p6.below b7
      have P7 : Hid (w7.cell? ⟨F, 0, none⟩ = some (.int .i64 p1) ∧ w7.cell? ⟨F, 1, none⟩ = some (.int .i64 p2) ∧ w7.cell? ⟨F, 2, none⟩ = some (.string p3)) := ⟨(b7.cell (lt_of_cell P6.out.1)).trans P6.out.1, (b7.cell (lt_of_cell P6.out.2.1)).trans P6.out.2.1, (b7.cell (lt_of_cell P6.out.2.2)).trans P6.out.2.2⟩
      have O7 : Hid (OwnA w7 w.heap.size u5 (betL A B (J.take k))) := owns_below O6.out b7
      have b8 := b6.trans (b7.mono b6.size)
      have v8 : Hid (Mid w.heap.size w2 w7) := v6.out.below b7
      clear b6 v6 p6 O6 P6 b7
      obtain ⟨G, hG⟩ : ∃ G, w7.heap.size = G := ⟨_, rfl⟩
      have hFG : F < G := by rw [← hG]; exact lt_of_cell P7.out.1
      have f3 : ¬ E = G := by omega
      have f4 : ¬ G = E := by omega
      have f5 : ¬ F = G := by omega
      have f6 : ¬ G = F := by omega
      go_upto_region 7 with fail
      obtain ⟨W9, hW9⟩ : ∃ W, W = w7.alloc (.cells #[.int .i64 r1, .int .i64 r2, .string r3] 36) := ⟨_, rfl⟩
      have b9 : Below w.heap.size w W9 := by rw [hW9]; exact b8.alloc b8.size _
      have v9 : Hid (Mid w.heap.size w2 W9) := by rw [hW9]; exact v8.out.alloc _
      have p9 : PairAt W9 E 0 (qk, qx, qn, qt) := by rw [hW9]; exact p7.below ((Below.refl _ _).alloc (Nat.le_refl _) _)
      have bx : Below w7.heap.size w7 W9 := by rw [hW9]; exact (Below.refl _ _).alloc (Nat.le_refl _) _
      have P9 : W9.cell? ⟨F, 0, none⟩ = some (.int .i64 p1) ∧ W9.cell? ⟨F, 1, none⟩ = some (.int .i64 p2) ∧ W9.cell? ⟨F, 2, none⟩ = some (.string p3) := ⟨(bx.cell (lt_of_cell P7.out.1)).trans P7.out.1, (bx.cell (lt_of_cell P7.out.2.1)).trans P7.out.2.1, (bx.cell (lt_of_cell P7.out.2.2)).trans P7.out.2.2⟩
      have R9 : W9.cell? ⟨G, 0, none⟩ = some (.int .i64 r1) ∧ W9.cell? ⟨G, 1, none⟩ = some (.int .i64 r2) ∧ W9.cell? ⟨G, 2, none⟩ = some (.string r3) := by rw [hW9, ← hG]; exact ⟨by simp, by simp, by simp⟩
      have O9 : Hid (OwnA W9 w.heap.size u5 (betL A B (J.take k))) := owns_below O7.out bx
      rw [← hW9]
      clear hW9 p7 P7 O7 b8 v8 hG bx
      obtain ⟨m0, m1, m2⟩ := P9
      obtain ⟨n0, n1, n2⟩ := R9
      have e0 := p9.c0
      simp only at e0
      clear p9
      have gd := fun op x y w => guard_pl op x y (p1, p2, p3) (r1, r2, r3) w
      by_cases he : ((p1, p2, p3) : P3) = (r1, r2, r3)
      · have hne := neq_pl (p1, p2, p3) (r1, r2, r3) false (by rw [he, samP_self]; rfl)
        have HR : Hid (betL A B (J.take (k + 1)) = betL A B (J.take k)) := by
          show _ = _
          rw [HS'.out, if_pos he]; simp
        clear HS' he
        go_wp2_with fail
        go_roundw
        case rel => exact ⟨k + 1, by omega, by go_num, by rw [HR.out]; exact O9.out, b9, v9, kv⟩
        case measure => simp [RowKit.intOf]; omega
      · have hne := neq_pl (p1, p2, p3) (r1, r2, r3) true (by rw [samP_ne he]; rfl)
        have HR : Hid (betL A B (J.take (k + 1)) = betL A B (J.take k) ++ [(qk, r1, r2, r3)]) := by
          show _ = _
          rw [HS'.out, if_neg he]; rfl
        clear HS' he
        have o6 := owns_below O9.out ((Below.refl W9.heap.size W9).alloc (Nat.le_refl _) (.cells #[.string qk, .int .i64 r1, .int .i64 r2, .string r3] 48))
        have b7 := b9.alloc b9.size (.cells #[.string qk, .int .i64 r1, .int .i64 r2, .string r3] 48)
        have v7 : Hid (Mid w.heap.size w2 (W9.alloc (.cells #[.string qk, .int .i64 r1, .int .i64 r2, .string r3] 48))) := v9.out.alloc _
        have hge : ∀ j, u5.ownBlock = some j → w.heap.size ≤ j := fun j hj => (owns_block o6 j hj).1
        go_wp2_with (at_builtin; refine wpList_append_atx rfl (.tmp 38) (.tmp 43) rfl w.heap.size u5 (betL A B (J.take k)) rfl o6 W9.heap.size 0 1 1 [(qk, r1, r2, r3)] rfl rfl (one_at ⟨by simp, by simp, by simp, by simp⟩) (by have := hlen.out; omega) b7.size ?_; intro v' w6 own' gr' hat')
        have b10 := b7.grown gr' b7.size (fun j hj => hge j hj)
        have v10 : Hid (Mid w.heap.size w2 w6) := v7.out.grown gr' kv.out
        have kv' : Hid (∀ g, v'.ownBlock = some g → g = w.heap.size ∨ w2.heap.size ≤ g) := fun g hg => by
          rcases hat' with h | h
          · exact kv.out g (by rw [← h]; exact hg)
          · rw [h] at hg
            have h1 := Option.some.inj hg
            have h2 := v7.out.size
            omega
        go_roundw
        case rel => exact ⟨k + 1, by omega, by go_num, by rw [HR.out]; exact own', b10, v10, kv'⟩
        case measure => simp [RowKit.intOf]; omega
    · have hltI : ¬ (k : Int) < n := by omega
      have HO : Hid (OwnA wr w.heap.size u5 (betL A B J)) := by
        show OwnA _ _ _ _
        rw [List.take_of_length_le (by rw [HN.out]; omega)] at own
        exact own
      clear own
      go_wp2
      go_ret
      exact ⟨_, rfl, HO.out, bw⟩
end Go.Proofs.YtigmhbgdnmkooaaDoor

/- What vellumref03.Compose, Apply, Diff, Invert and Transform answer. -/
namespace Go.Proofs.YtigmhbgdnmkooaaDoor
open Go Go.RowKit Go.Lib
set_option linter.unusedVariables false

/-- A nil slice is empty and has no room. -/
abbrev NilZ (v : Value) : Prop := ∀ m c, v = .slice none m c → m = 0 ∧ c = 0
theorem wholeL_len (L : List A2) : (wholeL L).length ≤ L.length := List.length_filter_le _ _

theorem patched_any (va vb : Value) (A B : List A2) (w : World) (hA : RowA w va A) (hB : RowA w vb B) (zB : NilZ vb) (uA : Up A) (uB : Up B) (hl : A.length + B.length ≤ 1048576) :
    Calls Tryd.prog 54 #[va, vb] w fun r w' => ∃ v', r = .returned v' ∧ OwnA w' w.heap.size v' (jn (chC false) A B) ∧ Below w.heap.size w w' := by
  have cJ := join_ref va vb A B w hA hB zB uA uB hl
  have cW := fun W (v : Value) (hv : RowA W v (jn (chC true) A B)) => whole_any v (jn (chC true) A B) W hv (by have := jn_len (chC true) A B; omega)
  rw [whole_eq uA uB] at cW
  obtain ⟨pa, ca, rfl, _⟩ := hA.val
  obtain ⟨pb, cb, rfl, _⟩ := hB.val
  clear hA hB uA uB hl zB
  go_enter Tryd.func54, Tryd.ntmps54
  go_wp2_with fail
  refine cJ.mono ?_; rintro r w2 ⟨v', rfl, own, hb2⟩
  have cW' := cW w2 v' (own_rowA own)
  clear cJ cW own
  go_wp2_with fail
  refine cW'.mono ?_; rintro r w3 ⟨v2, rfl, own, hb3⟩
  have HO : Hid _ := own
  clear own
  go_wp2
  go_ret
  exact ⟨_, rfl, own_weaken HO.out hb2.size, hb2.trans (hb3.mono hb2.size)⟩

theorem undo_any (va vb : Value) (P S : List A2) (w : World) (hA : RowA w va P) (hB : RowA w vb S) (zA : NilZ va) (zB : NilZ vb) (pP : Pat P) (pS : Pat S) (nS : NoNull S) (hl : P.length + S.length + S.length ≤ 1048576) :
    Calls Tryd.prog 60 #[va, vb] w fun r w' => ∃ v', r = .returned v' ∧ OwnA w' w.heap.size v' (jn chI P S) ∧ Below w.heap.size w w' := by
  have cJ := patched_any vb va S P w hB hA zA pS.up pP.up (by omega)
  have cW := fun W (hW : Below w.heap.size w W) (v : Value) (hv : RowA W v (jn (chC false) S P)) => bet_any v vb (jn (chC false) S P) S W hv (hB.below hW) zB (up_join _ pS.up pP.up) pS.up (by have := jn_len (chC false) S P; omega)
  rw [bet_eq (up_join _ pS.up pP.up) pS.up, und_eq pS.up pP.up nS pP.null0] at cW
  obtain ⟨pa, ca, rfl, _⟩ := hA.val
  obtain ⟨pb, cb, rfl, _⟩ := hB.val
  clear hA hB pP pS nS hl zB zA
  go_enter Tryd.func60, Tryd.ntmps60
  go_wp2_with fail
  refine cJ.mono ?_; rintro r w2 ⟨v', rfl, own, hb2⟩
  have cW' := cW w2 hb2 v' (own_rowA own)
  clear cJ cW own
  go_wp2_with fail
  refine cW'.mono ?_; rintro r w3 ⟨v2, rfl, own, hb3⟩
  have HO : Hid _ := own
  clear own
  go_wp2
  go_ret
  exact ⟨_, rfl, own_weaken HO.out hb2.size, hb2.trans (hb3.mono hb2.size)⟩

theorem rappl_no {I : List Nat} {a : Nat → Addr} (va vb : Value) (A B : List A2) (w : World) (hS : Std I a w) (hA : RowA w va A) (hB : RowA w vb B) (zA : NilZ va) (zB : NilZ vb) (sA : Tiny A) (sB : Tiny B) (hl : A.length + B.length + B.length ≤ 1048576) (hE : bothE A false B true ≠ 0) :
    Calls Tryd.prog 22 #[va, vb] w fun r w' => r = .returned (.tuple #[.slice none 0 0, .int .i64 (bothE A false B true)]) ∧ Below w.heap.size w w' := by
  have c := ref_both va vb A B false true w hS hA hB sA sB (by omega)
  obtain ⟨E, hE2⟩ : ∃ E, bothE A false B true = E := ⟨_, rfl⟩
  rw [hE2] at c hE ⊢
  have hen : ((E : Int) != 0) = true := by simp; omega
  obtain ⟨pa, ca, rfl, _⟩ := hA.val
  obtain ⟨pb, cb, rfl, _⟩ := hB.val
  clear hA hB hS sA sB hl hE hE2 zA zB
  go_enter Tryd.func22, Tryd.ntmps22
  go_wp2_with fail
  refine c.mono ?_; rintro r w2 ⟨rfl, hb2⟩
  go_wp2
  go_ret2
  exact ⟨rfl, hb2⟩

theorem rappl_ok {I : List Nat} {a : Nat → Addr} (va vb : Value) (A B : List A2) (w : World) (hS : Std I a w) (hA : RowA w va A) (hB : RowA w vb B) (zA : NilZ va) (zB : NilZ vb) (sA : Tiny A) (sB : Tiny B) (hl : A.length + B.length + B.length ≤ 1048576) (hE : bothE A false B true = 0) :
    Calls Tryd.prog 22 #[va, vb] w fun r w' => ∃ v', r = .returned (.tuple #[v', .int .i64 0]) ∧ OwnA w' w.heap.size v' (jn (chC false) A B) ∧ Below w.heap.size w w' := by
  have c := ref_both va vb A B false true w hS hA hB sA sB (by omega)
  rw [hE] at c
  have hz : listE false none A = 0 ∧ listE true none B = 0 := by
    unfold bothE at hE
    by_cases h : listE false none A = 0
    · rw [if_pos h] at hE; exact ⟨h, hE⟩
    · rw [if_neg h] at hE; exact absurd hE h
  have gA : Pat A := (set_of hz.1).1
  have gB : Pat B := pat_of hz.2
  have cJ : ∀ W, Below w.heap.size w W → Calls Tryd.prog 54 #[va, vb] W fun r w' => ∃ v', r = .returned v' ∧ OwnA w' W.heap.size v' (jn (chC false) A B) ∧ Below W.heap.size W w' := fun W hW => by
    exact patched_any va vb A B W (hA.below hW) (hB.below hW) zB gA.up gB.up (by omega)
  obtain ⟨pa, ca, rfl, _⟩ := hA.val
  obtain ⟨pb, cb, rfl, _⟩ := hB.val
  clear hA hB hS sA sB hl hE zA zB hz gA gB
  go_enter Tryd.func22, Tryd.ntmps22
  go_wp2_with fail
  refine c.mono ?_; rintro r w2 ⟨rfl, hb2⟩
  have cJ' := cJ _ hb2
  clear cJ c
  go_wp2_with fail
  refine cJ'.mono ?_; rintro r w3 ⟨v', rfl, own, hb3⟩
  have HO : Hid _ := own
  clear own
  go_wp2
  go_ret2
  exact ⟨_, rfl, own_weaken HO.out hb2.size, hb2.trans (hb3.mono hb2.size)⟩

theorem rdiff_no {I : List Nat} {a : Nat → Addr} (va vb : Value) (A B : List A2) (w : World) (hS : Std I a w) (hA : RowA w va A) (hB : RowA w vb B) (zA : NilZ va) (zB : NilZ vb) (sA : Tiny A) (sB : Tiny B) (hl : A.length + B.length + B.length ≤ 1048576) (hE : bothE A false B false ≠ 0) :
    Calls Tryd.prog 24 #[va, vb] w fun r w' => r = .returned (.tuple #[.slice none 0 0, .int .i64 (bothE A false B false)]) ∧ Below w.heap.size w w' := by
  have c := ref_both va vb A B false false w hS hA hB sA sB (by omega)
  obtain ⟨E, hE2⟩ : ∃ E, bothE A false B false = E := ⟨_, rfl⟩
  rw [hE2] at c hE ⊢
  have hen : ((E : Int) != 0) = true := by simp; omega
  obtain ⟨pa, ca, rfl, _⟩ := hA.val
  obtain ⟨pb, cb, rfl, _⟩ := hB.val
  clear hA hB hS sA sB hl hE hE2 zA zB
  go_enter Tryd.func24, Tryd.ntmps24
  go_wp2_with fail
  refine c.mono ?_; rintro r w2 ⟨rfl, hb2⟩
  go_wp2
  go_ret2
  exact ⟨rfl, hb2⟩

theorem rdiff_ok {I : List Nat} {a : Nat → Addr} (va vb : Value) (A B : List A2) (w : World) (hS : Std I a w) (hA : RowA w va A) (hB : RowA w vb B) (zA : NilZ va) (zB : NilZ vb) (sA : Tiny A) (sB : Tiny B) (hl : A.length + B.length + B.length ≤ 1048576) (hE : bothE A false B false = 0) :
    Calls Tryd.prog 24 #[va, vb] w fun r w' => ∃ v', r = .returned (.tuple #[v', .int .i64 0]) ∧ OwnA w' w.heap.size v' (jn chD A B) ∧ Below w.heap.size w w' := by
  have c := ref_both va vb A B false false w hS hA hB sA sB (by omega)
  rw [hE] at c
  have hz : listE false none A = 0 ∧ listE false none B = 0 := by
    unfold bothE at hE
    by_cases h : listE false none A = 0
    · rw [if_pos h] at hE; exact ⟨h, hE⟩
    · rw [if_neg h] at hE; exact absurd hE h
  have gA : Pat A := (set_of hz.1).1
  have gB : Pat B := (set_of hz.2).1
  have nB : NoNull B := (set_of hz.2).2
  have cJ : ∀ W, Below w.heap.size w W → Calls Tryd.prog 58 #[va, vb] W fun r w' => ∃ v', r = .returned v' ∧ OwnA w' W.heap.size v' (jn chD A B) ∧ Below W.heap.size W w' := fun W hW => by
    rw [← bet_eq gA.up gB.up]
    exact bet_any va vb A B W (hA.below hW) (hB.below hW) zB gA.up gB.up (by omega)
  obtain ⟨pa, ca, rfl, _⟩ := hA.val
  obtain ⟨pb, cb, rfl, _⟩ := hB.val
  clear hA hB hS sA sB hl hE zA zB hz gA gB nB
  go_enter Tryd.func24, Tryd.ntmps24
  go_wp2_with fail
  refine c.mono ?_; rintro r w2 ⟨rfl, hb2⟩
  have cJ' := cJ _ hb2
  clear cJ c
  go_wp2_with fail
  refine cJ'.mono ?_; rintro r w3 ⟨v', rfl, own, hb3⟩
  have HO : Hid _ := own
  clear own
  go_wp2
  go_ret2
  exact ⟨_, rfl, own_weaken HO.out hb2.size, hb2.trans (hb3.mono hb2.size)⟩

theorem rinve_no {I : List Nat} {a : Nat → Addr} (va vb : Value) (A B : List A2) (w : World) (hS : Std I a w) (hA : RowA w va A) (hB : RowA w vb B) (zA : NilZ va) (zB : NilZ vb) (sA : Tiny A) (sB : Tiny B) (hl : A.length + B.length + B.length ≤ 1048576) (hE : bothE A true B false ≠ 0) :
    Calls Tryd.prog 26 #[va, vb] w fun r w' => r = .returned (.tuple #[.slice none 0 0, .int .i64 (bothE A true B false)]) ∧ Below w.heap.size w w' := by
  have c := ref_both va vb A B true false w hS hA hB sA sB (by omega)
  obtain ⟨E, hE2⟩ : ∃ E, bothE A true B false = E := ⟨_, rfl⟩
  rw [hE2] at c hE ⊢
  have hen : ((E : Int) != 0) = true := by simp; omega
  obtain ⟨pa, ca, rfl, _⟩ := hA.val
  obtain ⟨pb, cb, rfl, _⟩ := hB.val
  clear hA hB hS sA sB hl hE hE2 zA zB
  go_enter Tryd.func26, Tryd.ntmps26
  go_wp2_with fail
  refine c.mono ?_; rintro r w2 ⟨rfl, hb2⟩
  go_wp2
  go_ret2
  exact ⟨rfl, hb2⟩

theorem rinve_ok {I : List Nat} {a : Nat → Addr} (va vb : Value) (A B : List A2) (w : World) (hS : Std I a w) (hA : RowA w va A) (hB : RowA w vb B) (zA : NilZ va) (zB : NilZ vb) (sA : Tiny A) (sB : Tiny B) (hl : A.length + B.length + B.length ≤ 1048576) (hE : bothE A true B false = 0) :
    Calls Tryd.prog 26 #[va, vb] w fun r w' => ∃ v', r = .returned (.tuple #[v', .int .i64 0]) ∧ OwnA w' w.heap.size v' (jn chI A B) ∧ Below w.heap.size w w' := by
  have c := ref_both va vb A B true false w hS hA hB sA sB (by omega)
  rw [hE] at c
  have hz : listE true none A = 0 ∧ listE false none B = 0 := by
    unfold bothE at hE
    by_cases h : listE true none A = 0
    · rw [if_pos h] at hE; exact ⟨h, hE⟩
    · rw [if_neg h] at hE; exact absurd hE h
  have gA : Pat A := pat_of hz.1
  have gB : Pat B := (set_of hz.2).1
  have nB : NoNull B := (set_of hz.2).2
  have cJ : ∀ W, Below w.heap.size w W → Calls Tryd.prog 60 #[va, vb] W fun r w' => ∃ v', r = .returned v' ∧ OwnA w' W.heap.size v' (jn chI A B) ∧ Below W.heap.size W w' := fun W hW => by
    exact undo_any va vb A B W (hA.below hW) (hB.below hW) zA zB gA gB nB hl
  obtain ⟨pa, ca, rfl, _⟩ := hA.val
  obtain ⟨pb, cb, rfl, _⟩ := hB.val
  clear hA hB hS sA sB hl hE zA zB hz gA gB nB
  go_enter Tryd.func26, Tryd.ntmps26
  go_wp2_with fail
  refine c.mono ?_; rintro r w2 ⟨rfl, hb2⟩
  have cJ' := cJ _ hb2
  clear cJ c
  go_wp2_with fail
  refine cJ'.mono ?_; rintro r w3 ⟨v', rfl, own, hb3⟩
  have HO : Hid _ := own
  clear own
  go_wp2
  go_ret2
  exact ⟨_, rfl, own_weaken HO.out hb2.size, hb2.trans (hb3.mono hb2.size)⟩

theorem rtran_no {I : List Nat} {a : Nat → Addr} (first : Bool) (va vb : Value) (A B : List A2) (w : World) (hS : Std I a w) (hA : RowA w va A) (hB : RowA w vb B) (zA : NilZ va) (zB : NilZ vb) (sA : Tiny A) (sB : Tiny B) (hl : A.length + B.length + B.length ≤ 1048576) (hE : bothE A true B true ≠ 0) :
    Calls Tryd.prog 28 #[va, vb, .bool first] w fun r w' => r = .returned (.tuple #[.slice none 0 0, .int .i64 (bothE A true B true)]) ∧ Below w.heap.size w w' := by
  have c := ref_both va vb A B true true w hS hA hB sA sB (by omega)
  obtain ⟨E, hE2⟩ : ∃ E, bothE A true B true = E := ⟨_, rfl⟩
  rw [hE2] at c hE ⊢
  have hen : ((E : Int) != 0) = true := by simp; omega
  obtain ⟨pa, ca, rfl, _⟩ := hA.val
  obtain ⟨pb, cb, rfl, _⟩ := hB.val
  clear hA hB hS sA sB hl hE hE2 zA zB
  go_enter Tryd.func28, Tryd.ntmps28
  go_wp2_with fail
  refine c.mono ?_; rintro r w2 ⟨rfl, hb2⟩
  go_wp2
  go_ret2
  exact ⟨rfl, hb2⟩

theorem rtran_ok {I : List Nat} {a : Nat → Addr} (first : Bool) (va vb : Value) (A B : List A2) (w : World) (hS : Std I a w) (hA : RowA w va A) (hB : RowA w vb B) (zA : NilZ va) (zB : NilZ vb) (sA : Tiny A) (sB : Tiny B) (hl : A.length + B.length + B.length ≤ 1048576) (hE : bothE A true B true = 0) :
    Calls Tryd.prog 28 #[va, vb, .bool first] w fun r w' => ∃ v', r = .returned (.tuple #[v', .int .i64 0]) ∧ OwnA w' w.heap.size v' (jn (chT first) A B) ∧ Below w.heap.size w w' := by
  have c := ref_both va vb A B true true w hS hA hB sA sB (by omega)
  rw [hE] at c
  have hz : listE true none A = 0 ∧ listE true none B = 0 := by
    unfold bothE at hE
    by_cases h : listE true none A = 0
    · rw [if_pos h] at hE; exact ⟨h, hE⟩
    · rw [if_neg h] at hE; exact absurd hE h
  have gA : Pat A := pat_of hz.1
  have gB : Pat B := pat_of hz.2
  have cJ : ∀ W, Below w.heap.size w W → Calls Tryd.prog 32 #[va, vb, .bool first] W fun r w' => ∃ v', r = .returned v' ∧ OwnA w' W.heap.size v' (jn (chT first) A B) ∧ Below W.heap.size W w' := fun W hW => by
    rw [← over_eq first gA.up gB.up]
    exact over_any va vb A B first W (hB.below hW) (by omega) (hA.below hW) (by omega)
  obtain ⟨pa, ca, rfl, _⟩ := hA.val
  obtain ⟨pb, cb, rfl, _⟩ := hB.val
  clear hA hB hS sA sB hl hE zA zB hz gA gB
  go_enter Tryd.func28, Tryd.ntmps28
  go_wp2_with fail
  refine c.mono ?_; rintro r w2 ⟨rfl, hb2⟩
  have cJ' := cJ _ hb2
  clear cJ c
  go_wp2_with fail
  refine cJ'.mono ?_; rintro r w3 ⟨v', rfl, own, hb3⟩
  have HO : Hid _ := own
  clear own
  go_wp2
  go_ret2
  exact ⟨_, rfl, own_weaken HO.out hb2.size, hb2.trans (hb3.mono hb2.size)⟩

theorem rcomp_no {I : List Nat} {a : Nat → Addr} (nulls : Bool) (va vb : Value) (A B : List A2) (w : World) (hS : Std I a w) (hA : RowA w va A) (hB : RowA w vb B) (zA : NilZ va) (zB : NilZ vb) (sA : Tiny A) (sB : Tiny B) (hl : A.length + B.length + B.length ≤ 1048576) (hE : bothE A true B true ≠ 0) :
    Calls Tryd.prog 20 #[va, vb, .bool nulls] w fun r w' => r = .returned (.tuple #[.slice none 0 0, .int .i64 (bothE A true B true)]) ∧ Below w.heap.size w w' := by
  have c := ref_both va vb A B true true w hS hA hB sA sB (by omega)
  obtain ⟨E, hE2⟩ : ∃ E, bothE A true B true = E := ⟨_, rfl⟩
  rw [hE2] at c hE ⊢
  have hen : ((E : Int) != 0) = true := by simp; omega
  obtain ⟨pa, ca, rfl, _⟩ := hA.val
  obtain ⟨pb, cb, rfl, _⟩ := hB.val
  clear hA hB hS sA sB hl hE hE2 zA zB
  go_enter Tryd.func20, Tryd.ntmps20
  go_wp2_with fail
  refine c.mono ?_; rintro r w2 ⟨rfl, hb2⟩
  go_wp2
  go_ret2
  exact ⟨rfl, hb2⟩

theorem rcomp_true_ok {I : List Nat} {a : Nat → Addr} (va vb : Value) (A B : List A2) (w : World) (hS : Std I a w) (hA : RowA w va A) (hB : RowA w vb B) (zA : NilZ va) (zB : NilZ vb) (sA : Tiny A) (sB : Tiny B) (hl : A.length + B.length + B.length ≤ 1048576) (hE : bothE A true B true = 0) :
    Calls Tryd.prog 20 #[va, vb, .bool true] w fun r w' => ∃ v', r = .returned (.tuple #[v', .int .i64 0]) ∧ OwnA w' w.heap.size v' (jn (chC true) A B) ∧ Below w.heap.size w w' := by
  have c := ref_both va vb A B true true w hS hA hB sA sB (by omega)
  rw [hE] at c
  have hz : listE true none A = 0 ∧ listE true none B = 0 := by
    unfold bothE at hE
    by_cases h : listE true none A = 0
    · rw [if_pos h] at hE; exact ⟨h, hE⟩
    · rw [if_neg h] at hE; exact absurd hE h
  have gA : Pat A := pat_of hz.1
  have gB : Pat B := pat_of hz.2
  have cJ : ∀ W, Below w.heap.size w W → Calls Tryd.prog 52 #[va, vb] W fun r w' => ∃ v', r = .returned v' ∧ OwnA w' W.heap.size v' (jn (chC true) A B) ∧ Below W.heap.size W w' := fun W hW => by
    exact join_ref va vb A B W (hA.below hW) (hB.below hW) zB gA.up gB.up (by omega)
  obtain ⟨pa, ca, rfl, _⟩ := hA.val
  obtain ⟨pb, cb, rfl, _⟩ := hB.val
  clear hA hB hS sA sB hl hE zA zB hz gA gB
  go_enter Tryd.func20, Tryd.ntmps20
  go_wp2_with fail
  refine c.mono ?_; rintro r w2 ⟨rfl, hb2⟩
  have cJ' := cJ _ hb2
  clear cJ c
  go_wp2_with fail
  refine cJ'.mono ?_; rintro r w3 ⟨v', rfl, own, hb3⟩
  have HO : Hid _ := own
  clear own
  go_wp2
  go_ret2
  exact ⟨_, rfl, own_weaken HO.out hb2.size, hb2.trans (hb3.mono hb2.size)⟩

theorem rcomp_false_ok {I : List Nat} {a : Nat → Addr} (va vb : Value) (A B : List A2) (w : World) (hS : Std I a w) (hA : RowA w va A) (hB : RowA w vb B) (zA : NilZ va) (zB : NilZ vb) (sA : Tiny A) (sB : Tiny B) (hl : A.length + B.length + B.length ≤ 1048576) (hE : bothE A true B true = 0) :
    Calls Tryd.prog 20 #[va, vb, .bool false] w fun r w' => ∃ v', r = .returned (.tuple #[v', .int .i64 0]) ∧ OwnA w' w.heap.size v' (jn (chC false) A B) ∧ Below w.heap.size w w' := by
  have c := ref_both va vb A B true true w hS hA hB sA sB (by omega)
  rw [hE] at c
  have hz : listE true none A = 0 ∧ listE true none B = 0 := by
    unfold bothE at hE
    by_cases h : listE true none A = 0
    · rw [if_pos h] at hE; exact ⟨h, hE⟩
    · rw [if_neg h] at hE; exact absurd hE h
  have gA : Pat A := pat_of hz.1
  have gB : Pat B := pat_of hz.2
  have cJ := fun W (hW : Below w.heap.size w W) => join_ref va vb A B W (hA.below hW) (hB.below hW) zB gA.up gB.up (by omega)
  have cW := fun W (v : Value) (hv : RowA W v (jn (chC true) A B)) => whole_any v (jn (chC true) A B) W hv (by have := jn_len (chC true) A B; omega)
  rw [whole_eq gA.up gB.up] at cW
  obtain ⟨pa, ca, rfl, _⟩ := hA.val
  obtain ⟨pb, cb, rfl, _⟩ := hB.val
  clear hA hB hS sA sB hl hE zA zB hz gA gB
  go_enter Tryd.func20, Tryd.ntmps20
  go_wp2_with fail
  refine c.mono ?_; rintro r w2 ⟨rfl, hb2⟩
  have cJ' := cJ _ hb2
  clear cJ c
  go_wp2_with fail
  refine cJ'.mono ?_; rintro r w3 ⟨v', rfl, own, hb3⟩
  have cW' := cW w3 v' (own_rowA own)
  clear cW own
  go_wp2_with fail
  refine cW'.mono ?_; rintro r w4 ⟨v2, rfl, own, hb4⟩
  have HO : Hid _ := own
  clear own
  go_wp2
  go_ret2
  have h23 := hb2.trans (hb3.mono hb2.size)
  exact ⟨_, rfl, own_weaken HO.out h23.size, h23.trans (hb4.mono h23.size)⟩
end Go.Proofs.YtigmhbgdnmkooaaDoor

/- The mark behind a list's end. -/
namespace Go.Proofs.YtigmhbgdnmkooaaDoor
abbrev s1 : A2 := (⟨#[115, 112, 97, 114, 101]⟩, 0, 0, ⟨#[]⟩)
end Go.Proofs.YtigmhbgdnmkooaaDoor

/- vellumhand.Attrs and Kept. -/
namespace Go.Proofs.YtigmhbgdnmkooaaDoor
open Go Go.RowKit Go.Lib
set_option linter.unusedVariables false

abbrev s2 : A2 := (⟨#[114, 111, 111, 109]⟩, 0, 0, ⟨#[]⟩)
/-- A copy with two more behind its end. -/
def HandA (w : World) (v : Value) (A : List A2) : Prop :=
  NilZ v ∧ RowA w v A ∧ (A ≠ [] → ∃ p c, v = .slice p A.length c ∧ A.length + 2 ≤ c ∧ RowA w (.slice p (A.length + 2) c) (A ++ [s1, s2]))
theorem HandA.below {w w' : World} {v : Value} {A : List A2} (h : HandA w v A) (b : Below w.heap.size w w') : HandA w' v A :=
  ⟨h.1, h.2.1.below b, fun hA => by obtain ⟨p, c, h1, h2, h3⟩ := h.2.2 hA; exact ⟨p, c, h1, h2, h3.below b⟩⟩
set_option maxHeartbeats 2000000 in
set_option maxRecDepth 100000 in
theorem hattrs_any (v : Value) (A : List A2) (w : World) (hA : RowA w v A) (hl : A.length ≤ 1048576) :
    Calls Tryd.prog 7 #[v] w fun r w' => ∃ v', r = .returned v' ∧ HandA w' v' A ∧ Below w.heap.size w w' := by
  obtain ⟨n, hn⟩ : ∃ n, A.length = n := ⟨_, rfl⟩
  obtain ⟨p, cap, rfl, hcap, hc⟩ := hA
  rw [hn] at hl hcap ⊢
  have HN : Hid (A.length = n) := hn
  have HC : Hid _ := hc
  clear hc hn
  by_cases h0 : n = 0
  · subst h0
    obtain rfl : A = [] := List.eq_nil_of_length_eq_zero HN.out
    have hz : HandA w (.slice none 0 0) [] := ⟨fun m c h => by simp only [Value.slice.injEq] at h; exact ⟨h.2.1.symm, h.2.2.symm⟩, RowA.nil _ _ _, fun h => absurd rfl h⟩
    go_enter Tryd.func7, Tryd.ntmps7
    go_wp2
    go_ret
    exact ⟨.slice none 0 0, rfl, hz, Below.refl _ _⟩
  · have h0I : ((n : Int) == 0) = false := by simp; omega
    obtain ⟨q, hq⟩ : ∃ q, A[0]? = some q := ⟨_, List.getElem?_eq_getElem (by rw [HN.out]; omega)⟩
    obtain ⟨b, off, rfl, _⟩ := HC.out 0 q hq
    have hne : A ≠ [] := fun e => by have := HN.out; rw [e] at this; exact h0 this.symm
    have HE : Hid (A ≠ []) := hne
    clear hq hne h0
    have oE := own_empty' w w.heap.size (Nat.le_refl _)
    have bE := (Below.refl w.heap.size w).alloc (Nat.le_refl _) (.cells #[] 48)
    have hM : Hid (∀ (j : Nat) (x : A2), A[j]? = some x → PairAt (w.alloc (.cells #[] 48)) b (off + j * 4) x) := fun j x hx => by
      obtain ⟨b', off', he, h⟩ := HC.out j x hx
      cases he
      exact h.below bE
    have hL0 : ([] : List A2).length + n ≤ 2097152 := by simp; omega
    go_enter Tryd.func7, Tryd.ntmps7
    go_wp2_with (first
      | (at_builtin; refine wpList_append_atx rfl (.tmp 7) (.tmp 8) rfl w.heap.size (.slice (some ⟨w.heap.size, 0, none⟩) 0 0) [] rfl oE b off n cap A rfl HN.out hM.out hL0 bE.size ?_; intro v9 w9 own9 gr9 hat9; have b10 := (bE.grown gr9 bE.size (fun j hj => by simp only [Value.ownBlock, Option.some.injEq] at hj; omega)).alloc (by have h0 := gr9.size; have h1 := bE.size; omega) (.cells #[.string ⟨#[115, 112, 97, 114, 101]⟩, .int .i64 0, .int .i64 0, .string ⟨#[]⟩, .string ⟨#[114, 111, 111, 109]⟩, .int .i64 0, .int .i64 0, .string ⟨#[]⟩] 48); have O9 : Hid (OwnA w9 w.heap.size v9 A) := own9; have O10 : Hid (OwnA (w9.alloc (.cells #[.string ⟨#[115, 112, 97, 114, 101]⟩, .int .i64 0, .int .i64 0, .string ⟨#[]⟩, .string ⟨#[114, 111, 111, 109]⟩, .int .i64 0, .int .i64 0, .string ⟨#[]⟩] 48)) w.heap.size v9 A) := owns_below O9.out ((Below.refl _ _).alloc (Nat.le_refl _) _); have hL1 : Hid (A.length + 2 ≤ 2097152) := (by show _ ≤ _; rw [HN.out]; omega); have hge : Hid (∀ j, v9.ownBlock = some j → w.heap.size ≤ j) := (fun j hj => (owns_block O10.out j hj).1); clear own9 gr9 hat9 oE bE hM O9)
      | (at_builtin; refine wpList_append_atx rfl (.tmp 9) (.tmp 12) rfl w.heap.size v9 A rfl O10.out w9.heap.size 0 2 2 [s1, s2] rfl rfl (two_at ⟨by simp, by simp, by simp, by simp⟩ ⟨by simp, by simp, by simp, by simp⟩) hL1.out b10.size ?_; intro v11 w11 own11 gr11 hat11; have b11 := b10.grown gr11 b10.size (fun j hj => hge.out j hj); obtain ⟨p11, c11, e11, hc11, hr11⟩ := own_rowA own11; rw [show (A ++ [s1, s2]).length = n + 2 by simp [HN.out]] at e11 hc11; subst e11; have HR : Hid _ := hr11; have hcI : n ≤ c11 := (by omega); clear own11 gr11 hat11 O10 b10 hge hr11))
    go_ret
    refine ⟨_, rfl, ⟨?_, ?_, ?_⟩, b11⟩
    · intro m c h
      have hp : p11 = none := by simpa using (Value.slice.inj h).1
      obtain ⟨b', off', he, _⟩ := HR.out n s1 (by rw [List.getElem?_append_right (by rw [HN.out]; omega), HN.out]; simp)
      rw [hp] at he; cases he
    · refine ⟨p11, c11, by rw [HN.out]; rfl, by rw [HN.out]; exact hcI, fun j x hx => HR.out j x ?_⟩
      rw [List.getElem?_append_left (List.getElem?_eq_some_iff.1 hx).1]; exact hx
    · intro _
      exact ⟨p11, c11, by rw [HN.out]; rfl, by rw [HN.out]; exact hc11, ⟨p11, c11, by simp [HN.out], by simp [HN.out]; omega, HR.out⟩⟩
end Go.Proofs.YtigmhbgdnmkooaaDoor

/- What scalars.Len and scalars.Cut answer (parts of Sca.tpl and Cut.tpl, over a list of sentinels). -/
namespace Go.Proofs.YtigmhbgdnmkooaaDoor
open Go Go.RowKit Go.Lib
set_option linter.unusedVariables false

/-- How many scalars UTF-8 has. -/
theorem runeCountFrom_encs (s : ByteArray) : ∀ (rs : List Nat) (f pos : Nat), (∀ r ∈ rs, scal r) → s.data.toList.drop pos = encs rs → s.size - pos ≤ f → runeCountFrom s f pos = rs.length
  | [], f, pos, _, h, hf => by
    have := congrArg List.length h
    rw [List.length_drop, size_toList] at this
    exact runeCountFrom_end s f pos (by simp [encs] at this; omega)
  | r :: rs, 0, pos, hr, h, hf => by
    exfalso
    have := congrArg List.length h
    have hp := enc_pos (hr r (by simp))
    rw [List.length_drop, size_toList, encs, List.length_append] at this
    omega
  | r :: rs, f + 1, pos, hr, h, hf => by
    have hl := congrArg List.length h
    have hrr := hr r (by simp)
    have hp := enc_pos hrr
    rw [List.length_drop, size_toList, encs, List.length_append] at hl
    have hd : Utf8.decode s pos = (r, (enc r).length) := by
      rw [← decodeL_drop, h, encs, dec_enc hrr]
    rw [runeCountFrom, if_pos (by omega), hd]
    have ih := runeCountFrom_encs s rs f (pos + (enc r).length) (fun x hx => hr x (by simp [hx])) (by rw [← List.drop_drop, h, encs, List.drop_left]) (by omega)
    simp only []
    rw [ih, List.length_cons]; omega
theorem runeCount_scs (s : ByteArray) (h : brk s.data.toList = s.size) : runeCount s = (scs s.data.toList).length := by
  have hv := valid_of_brk (l := s.data.toList) (by rw [h, size_toList])
  obtain ⟨_, h1, _, _⟩ := text_cases s.data.toList
  exact runeCountFrom_encs s _ _ 0 h1 (by rw [List.drop_zero]; exact hv) (Nat.le_refl _)

theorem decode_pos (s : ByteArray) (rs : List Nat) (hv : s.data.toList = encs rs) (hs : ∀ r ∈ rs, scal r) (i : Nat) (h : i < rs.length) :
    Utf8.decode s (pos rs i) = (rs[i], (enc rs[i]).length) ∧ pos rs i < s.size := by
  have hr : scal rs[i] := hs _ (List.getElem_mem h)
  have hp := enc_pos hr
  constructor
  · rw [← decodeL_drop, hv, drop_pos, List.drop_eq_getElem_cons h, encs, dec_enc hr]
  · have h1 := pos_succ rs i h
    have h2 := pos_le rs (i + 1)
    rw [← hv, size_toList] at h2
    omega

/-- One call behind another, draws between. -/
theorem below_on {W w w1 w' : World} (h : Below W.heap.size W w) (k : Below w1.heap.size w1 w') (e : w1.heap = w.heap) (e1 : w1.os = w.os) (e2 : w1.tape = w.tape) (e3 : w1.output = w.output) : Below W.heap.size W w' :=
  h.trans ⟨k.os.trans e1, k.tape.trans e2, k.output.trans e3, e ▸ k.size, fun i hi => by
    rw [← e]; exact k.block i (by rw [e]; exact Nat.lt_of_lt_of_le hi h.size)⟩

/-- What is known of a text that is UTF-8. -/
theorem valid_text (s : ByteArray) (h : brk s.data.toList = s.size) : (∀ r ∈ scs s.data.toList, scal r) ∧ s.data.toList = encs (scs s.data.toList) ∧ (scs s.data.toList).length ≤ s.size := by
  have hv := valid_of_brk (l := s.data.toList) (by rw [h, size_toList])
  obtain ⟨_, h1, _, _⟩ := text_cases s.data.toList
  refine ⟨h1, hv, ?_⟩
  have : ∀ rs : List Nat, (∀ r ∈ rs, scal r) → rs.length ≤ (encs rs).length := fun rs => by
    induction rs with
    | nil => intro _; exact Nat.le_refl _
    | cons x rs ih =>
      intro hx
      have := enc_pos (hx x (by simp))
      have := ih fun r hr => hx r (by simp [hr])
      simp only [encs, List.length_append, List.length_cons]
      omega
  have := this _ h1
  rw [← hv, size_toList] at this
  exact this

end Go.Proofs.YtigmhbgdnmkooaaDoor

/- Operations as plain data; what an insert is refused with. -/
namespace Go.Proofs.YtigmhbgdnmkooaaDoor
open Go Go.RowKit Go.Lib
set_option linter.unusedVariables false

/-- An operation's fields. -/
structure Op5 where
  k : Int
  t : ByteArray
  v : P3
  c : Int
  A : List A2
deriving DecidableEq
/-- An operation as a value, its list being s. -/
abbrev opV (o : Op5) (s : Value) : Value := .agg #[.int .i64 o.k, .string o.t, .int .i64 o.v.1, .int .i64 o.v.2.1, .string o.v.2.2, .int .i64 o.c, s]
/-- What an insert's own fields are refused with. -/
def fldE (o : Op5) : Nat :=
  if o.k ≠ 1 ∧ o.k ≠ 2 then 5
  else if o.c ≠ 0 ∨ (o.k = 1 ∧ (o.t.toList.isEmpty = true ∨ o.v ≠ z0)) then 9
  else if o.k = 2 ∧ (o.t.toList.isEmpty = true ∨ 64 < o.t.size) then 6 else 0
/-- What an insert is refused with. -/
def insE (o : Op5) : Nat :=
  if fldE o ≠ 0 then fldE o else if brk o.t.data.toList ≠ o.t.size then 1 else if chkP o.v ≠ 0 then chkP o.v else listE false none o.A
/-- How many cells an insert has. -/
def lenO (o : Op5) : Nat := if o.k = 1 then (scs o.t.data.toList).length else 1

theorem chk_z0 : chkP z0 = 0 := chk_null
/-- What is known of an insert that isn't refused. -/
structure Ins (o : Op5) : Prop where
  kind : o.k = 1 ∧ o.v = z0 ∨ o.k = 2 ∧ o.t.size ≤ 64
  full : o.t.toList.isEmpty = false
  count : o.c = 0
  utf : brk o.t.data.toList = o.t.size
  val : chkP o.v = 0
  set : listE false none o.A = 0
theorem ins_of {o : Op5} (h : insE o = 0) : Ins o := by
  unfold insE at h
  by_cases hf : fldE o = 0
  · rw [if_neg (by simpa using hf)] at h
    by_cases hb : brk o.t.data.toList = o.t.size
    · rw [if_neg (by simpa using hb)] at h
      by_cases hv : chkP o.v = 0
      · rw [if_neg (by simpa using hv)] at h
        unfold fldE at hf
        by_cases h1 : o.k ≠ 1 ∧ o.k ≠ 2
        · rw [if_pos h1] at hf; cases hf
        · rw [if_neg h1] at hf
          by_cases h2 : o.c ≠ 0 ∨ (o.k = 1 ∧ (o.t.toList.isEmpty = true ∨ o.v ≠ z0))
          · rw [if_pos h2] at hf; cases hf
          · rw [if_neg h2] at hf
            by_cases h3 : o.k = 2 ∧ (o.t.toList.isEmpty = true ∨ 64 < o.t.size)
            · rw [if_pos h3] at hf; cases hf
            · have hc : o.c = 0 := Decidable.byContradiction fun hc => h2 (Or.inl hc)
              by_cases hk : o.k = 1
              · refine ⟨Or.inl ⟨hk, Decidable.byContradiction fun hz => h2 (Or.inr ⟨hk, Or.inr hz⟩)⟩, ?_, hc, hb, hv, h⟩
                cases he : o.t.toList.isEmpty
                · rfl
                · exact absurd (Or.inr ⟨hk, Or.inl he⟩) h2
              · have hk2 : o.k = 2 := Decidable.byContradiction fun hz => h1 ⟨hk, hz⟩
                refine ⟨Or.inr ⟨hk2, Nat.le_of_not_lt fun hz => h3 ⟨hk2, Or.inr hz⟩⟩, ?_, hc, hb, hv, h⟩
                cases he : o.t.toList.isEmpty
                · rfl
                · exact absurd ⟨hk2, Or.inl he⟩ h3
      · rw [if_pos (by simpa using hv)] at h; exact absurd h hv
    · rw [if_pos (by simpa using hb)] at h; cases h
  · rw [if_pos (by simpa using hf)] at h; exact absurd h hf
theorem Ins.fld {o : Op5} (h : Ins o) : fldE o = 0 := by
  unfold fldE
  rcases h.kind with ⟨k, v⟩ | ⟨k, t⟩
  · rw [if_neg (fun x => x.1 k), if_neg, if_neg]
    · rw [k]; rintro ⟨x, _⟩; cases x
    · rintro (x | ⟨_, x | x⟩)
      · exact x h.count
      · rw [h.full] at x; cases x
      · exact x v
  · rw [if_neg (fun x => x.2 k), if_neg, if_neg]
    · rintro ⟨_, x | x⟩
      · rw [h.full] at x; cases x
      · omega
    · rintro (x | ⟨x, _⟩)
      · exact x h.count
      · rw [k] at x; cases x
theorem Ins.zero {o : Op5} (h : Ins o) : insE o = 0 := by
  unfold insE
  rw [if_neg (by simpa using h.fld), if_neg (by simpa using h.utf), if_neg (by simpa using h.val)]
  exact h.set
theorem ins_iff {o : Op5} : insE o = 0 ↔ Ins o := ⟨ins_of, Ins.zero⟩
theorem fldE_le (o : Op5) : fldE o ≤ 9 := by
  unfold fldE
  split
  · omega
  · split
    · omega
    · split <;> omega
theorem insE_le (o : Op5) (hl : ∀ L : List A2, listE false none L ≤ 10) : insE o ≤ 10 := by
  unfold insE
  split
  · have := fldE_le o; omega
  · split
    · omega
    · split
      · exact chk_le _ _ _
      · exact hl _
/-- Under the empty patch a set is itself. -/
theorem comp_nil {A : List A2} (h : listE false none A = 0) : jn (chC false) A [] = A := by
  obtain ⟨_, ha, hn⟩ := set_iff.1 h
  refine up_ext (up_join _ ha up_nil) ha fun k => ?_
  rw [look_join _ ha up_nil]
  cases e : look k A with
  | none => simp [at2, look]
  | some v =>
    have := nn_look hn e
    simp [at2, fOf, chC, look, this]
theorem bothE_nil (A : List A2) : bothE A false [] true = listE false none A := by
  unfold bothE
  by_cases h : listE false none A = 0
  · rw [if_pos h, h]; rfl
  · rw [if_neg h]
end Go.Proofs.YtigmhbgdnmkooaaDoor

/- content.checkFields and Marked.Attributes. -/
namespace Go.Proofs.YtigmhbgdnmkooaaDoor
open Go Go.RowKit Go.Lib
set_option linter.unusedVariables false

/-- Where content wants its errors. -/
abbrev IC : List Nat := [0, 4, 5, 6, 7, 8, 9, 11]
/-- Those that its Of wants. -/
abbrev IW : List Nat := [0, 4, 5, 6, 7, 8, 9]
theorem IC_w {I : List Nat} (hI : ∀ i ∈ IC, i ∈ I) : ∀ i ∈ IW, i ∈ I := fun i hi => hI i (by simp at hi ⊢; omega)
abbrev opC (o : Op5) (s : Value) : Array Value := #[.int .i64 o.k, .string o.t, .int .i64 o.v.1, .int .i64 o.v.2.1, .string o.v.2.2, .int .i64 o.c, s]

end Go.Proofs.YtigmhbgdnmkooaaDoor

/- content.Of: an insert as a piece. -/
namespace Go.Proofs.YtigmhbgdnmkooaaDoor
open Go Go.RowKit Go.Lib
set_option linter.unusedVariables false

/-- A row of pairs whose nil is empty. -/
structure RN (w : World) (v : Value) (A : List A2) : Prop where
  row : RowA w v A
  nz : ∀ m c, v = .slice none m c → m = 0 ∧ c = 0
theorem RN.below {w w' : World} {v : Value} {A : List A2} (h : RN w v A) (b : Below w.heap.size w w') : RN w' v A := ⟨h.row.below b, h.nz⟩
theorem own_RN {w : World} {B : Nat} {v : Value} {A : List A2} (h : OwnA w B v A) : RN w v A := ⟨own_rowA h, own_nil h⟩
theorem RN.nil (w : World) : RN w (.slice none 0 0) [] := ⟨RowA.nil _ _ _, fun m c h => by simp only [Value.slice.injEq] at h; exact ⟨h.2.1.symm, h.2.2.symm⟩⟩
/-- An operation that isn't too great. -/
structure Fit (o : Op5) : Prop where
  t : o.t.size ≤ 8388608
  v : o.v.2.2.size ≤ 1048576
  A : ∀ q ∈ o.A, q.1.size ≤ 1048576 ∧ q.2.2.2.size ≤ 1048576
  n : o.A.length ≤ 1048576
theorem Fit.small {o : Op5} (h : Fit o) : Small o.A := fun q hq => by have := h.A q hq; unfold big; omega
/-- An operation in memory. -/
structure BoxO (w : World) (B : Nat) (o : Op5) (s : Value) : Prop where
  d0 : w.cell? ⟨B, 0, none⟩ = some (.int .i64 o.k)
  d1 : w.cell? ⟨B, 1, none⟩ = some (.string o.t)
  d2 : w.cell? ⟨B, 2, none⟩ = some (.int .i64 o.v.1)
  d3 : w.cell? ⟨B, 3, none⟩ = some (.int .i64 o.v.2.1)
  d4 : w.cell? ⟨B, 4, none⟩ = some (.string o.v.2.2)
  d5 : w.cell? ⟨B, 5, none⟩ = some (.int .i64 o.c)
  d6 : w.cell? ⟨B, 6, none⟩ = some s
theorem BoxO.below {w w' : World} {B : Nat} {o : Op5} {s : Value} (h : BoxO w B o s) (b : Below w.heap.size w w') : BoxO w' B o s :=
  ⟨(b.cell (lt_of_cell h.d0)).trans h.d0, (b.cell (lt_of_cell h.d1)).trans h.d1, (b.cell (lt_of_cell h.d2)).trans h.d2, (b.cell (lt_of_cell h.d3)).trans h.d3, (b.cell (lt_of_cell h.d4)).trans h.d4, (b.cell (lt_of_cell h.d5)).trans h.d5, (b.cell (lt_of_cell h.d6)).trans h.d6⟩
theorem BoxO.drew {w : World} {B : Nat} {o : Op5} {s : Value} (h : BoxO w B o s) : BoxO w.drew B o s := ⟨h.d0, h.d1, h.d2, h.d3, h.d4, h.d5, h.d6⟩
theorem valP_if (p : P3) : ∃ u x, valP p = .iface u x := by
  unfold valP valOf
  split
  · exact ⟨_, _, rfl⟩
  · split
    · exact ⟨_, _, rfl⟩
    · split <;> exact ⟨_, _, rfl⟩
theorem IW_v {I : List Nat} (hI : ∀ i ∈ IW, i ∈ I) : ∀ i ∈ [0, 4, 9], i ∈ I := fun i hi => hI i (by simp at hi ⊢; omega)
theorem IW_x {I : List Nat} (hI : ∀ i ∈ IW, i ∈ I) : ∀ i ∈ IX, i ∈ I := fun i hi => hI i (by simp at hi ⊢; omega)
theorem IC_v {I : List Nat} (hI : ∀ i ∈ IC, i ∈ I) : ∀ i ∈ [0, 4, 9], i ∈ I := fun i hi => hI i (by simp at hi ⊢; omega)
theorem IC_s {I : List Nat} (hI : ∀ i ∈ IC, i ∈ I) : ∀ i ∈ [0, 11], i ∈ I := fun i hi => hI i (by simp at hi ⊢; omega)
theorem IC_x {I : List Nat} (hI : ∀ i ∈ IC, i ∈ I) : ∀ i ∈ IX, i ∈ I := fun i hi => hI i (by simp at hi ⊢; omega)

end Go.Proofs.YtigmhbgdnmkooaaDoor

/- What vellumref04.SameAttrs, content.Same and vellumref04.Same answer. -/
namespace Go.Proofs.YtigmhbgdnmkooaaDoor
open Go Go.RowKit Go.Lib
set_option linter.unusedVariables false
theorem eql_pl (p q : P3) (b : Bool) (h : samP p q = b) (w : World) : (binOp .eql 36 (plV p) (plV q)).run Tryd.prog w = .ok (.bool b) w := by
  rw [run_eql_struct, show (Op.equalIn 10000 36 (plV p) (plV q)).run Tryd.prog w = .ok (samP p q) w from eqIn_pl p.1 p.2.1 p.2.2 q.1 q.2.1 q.2.2 w, ← h]; rfl

end Go.Proofs.YtigmhbgdnmkooaaDoor

/- Rows of cells as they lie in memory. -/
namespace Go.Proofs.YtigmhbgdnmkooaaDoor
open Go Go.RowKit Go.Lib
set_option linter.unusedVariables false

abbrev Sl : Type := Option Addr × Nat × Nat
abbrev slV (s : Sl) : Value := .slice s.1 s.2.1 s.2.2
/-- A cell as it lies in memory: its fields, its list as a slice. -/
abbrev CV : Type := Int × ByteArray × P3 × Sl
/-- A cell as plain data. -/
abbrev C5 : Type := Int × ByteArray × P3 × List A2
abbrev ceV (d : CV) : Value := .agg #[.int .i32 d.1, .string d.2.1, .int .i64 d.2.2.1.1, .int .i64 d.2.2.1.2.1, .string d.2.2.1.2.2, slV d.2.2.2]
def cellsC : List CV → List Value
  | [] => []
  | d :: r => .int .i32 d.1 :: .string d.2.1 :: .int .i64 d.2.2.1.1 :: .int .i64 d.2.2.1.2.1 :: .string d.2.2.1.2.2 :: slV d.2.2.2 :: cellsC r
theorem cellsC_len : ∀ L : List CV, (cellsC L).length = L.length * 6
  | [] => rfl
  | q :: r => by simp [cellsC, cellsC_len r]; omega
theorem cellsC_append : ∀ L M : List CV, cellsC (L ++ M) = cellsC L ++ cellsC M
  | [], M => rfl
  | q :: r, M => by simp [cellsC, cellsC_append r M]
theorem cellsC_one : ∀ (L : List CV), ∀ u ∈ cellsC L, u.oneCell' = true
  | [], u, h => by cases h
  | q :: r, u, h => by
    simp only [cellsC, List.mem_cons] at h
    rcases h with rfl | rfl | rfl | rfl | rfl | rfl | h
    · rfl
    · rfl
    · rfl
    · rfl
    · rfl
    · rfl
    · exact cellsC_one r u h
theorem cellsC_get : ∀ (L : List CV) (i : Nat) (d : CV), L[i]? = some d → (cellsC L)[i * 6]? = some (.int .i32 d.1) ∧ (cellsC L)[i * 6 + 1]? = some (.string d.2.1) ∧ (cellsC L)[i * 6 + 2]? = some (.int .i64 d.2.2.1.1) ∧ (cellsC L)[i * 6 + 3]? = some (.int .i64 d.2.2.1.2.1) ∧ (cellsC L)[i * 6 + 4]? = some (.string d.2.2.1.2.2) ∧ (cellsC L)[i * 6 + 5]? = some (slV d.2.2.2)
  | [], i, q, h => by simp at h
  | p :: r, 0, q, h => by
    obtain rfl : p = q := by simpa using h
    exact ⟨rfl, rfl, rfl, rfl, rfl, rfl⟩
  | p :: r, i + 1, q, h => by
    have := cellsC_get r i q (by simpa using h)
    rw [show (i + 1) * 6 = i * 6 + 1 + 1 + 1 + 1 + 1 + 1 by omega]
    simpa [cellsC] using this
/-- Cells that lie in a row from a place on. -/
def InC (w : World) (b off : Nat) (D : List CV) : Prop := ∀ (j : Nat) (u : Value), (cellsC D)[j]? = some u → w.cell? ⟨b, off + j, none⟩ = some u
theorem InC.below {w w' : World} {b off : Nat} {D : List CV} (h : InC w b off D) (hb : Below w.heap.size w w') : InC w' b off D := fun j u hu => (hb.cell (lt_of_cell (h j u hu))).trans (h j u hu)
/-- A slice of cells, as it lies in memory. -/
def RowC (w : World) (v : Value) (D : List CV) : Prop :=
  ∃ p cap, v = .slice p D.length cap ∧ D.length ≤ cap ∧ (p = none → cap = 0) ∧ (D ≠ [] → ∃ b off, p = some ⟨b, off, none⟩ ∧ InC w b off D)
theorem RowC.below {w w' : World} {v : Value} {D : List CV} (h : RowC w v D) (hb : Below w.heap.size w w') : RowC w' v D := by
  obtain ⟨p, cap, rfl, hl, hn, hc⟩ := h
  exact ⟨p, cap, rfl, hl, hn, fun hD => by obtain ⟨b, off, hp, h0⟩ := hc hD; exact ⟨b, off, hp, h0.below hb⟩⟩
/-- Two lists, place by place. -/
inductive All2 {α β : Type} (R : α → β → Prop) : List α → List β → Prop
  | nil : All2 R [] []
  | cons {a : α} {b : β} {l : List α} {m : List β} (h : R a b) (t : All2 R l m) : All2 R (a :: l) (b :: m)
theorem All2.imp {α β : Type} {R S : α → β → Prop} (h : ∀ a b, R a b → S a b) : ∀ {l : List α} {m : List β}, All2 R l m → All2 S l m
  | _, _, .nil => .nil
  | _, _, .cons hr t => .cons (h _ _ hr) (All2.imp h t)
/-- What the cells of a row are, their lists read from memory. -/
def Are (w : World) (D : List CV) (E : List C5) : Prop := All2 (fun (d : CV) (e : C5) => d.1 = e.1 ∧ d.2.1 = e.2.1 ∧ d.2.2.1 = e.2.2.1 ∧ RN w (slV d.2.2.2) e.2.2.2) D E
/-- The same, each list the call's own. -/
def AreO (w : World) (B : Nat) (D : List CV) (E : List C5) : Prop := All2 (fun (d : CV) (e : C5) => d.1 = e.1 ∧ d.2.1 = e.2.1 ∧ d.2.2.1 = e.2.2.1 ∧ OwnA w B (slV d.2.2.2) e.2.2.2) D E
theorem AreO.are {w : World} {B : Nat} {D : List CV} {E : List C5} (h : AreO w B D E) : Are w D E := All2.imp (fun d e h => ⟨h.1, h.2.1, h.2.2.1, own_RN h.2.2.2⟩) h
theorem Are.below {w w' : World} {D : List CV} {E : List C5} (h : Are w D E) (hb : Below w.heap.size w w') : Are w' D E := All2.imp (fun d e h => ⟨h.1, h.2.1, h.2.2.1, h.2.2.2.below hb⟩) h
/-- All blocks of pairs are as they were. -/
def KeepA (w w' : World) : Prop := ∀ (k : Nat) (cur : Array Value), w.heap[k]? = some (.cells cur 48 (0, 0)) → w'.heap[k]? = w.heap[k]?
theorem KeepA.trans {w w' w'' : World} (h : KeepA w w') (h' : KeepA w' w'') : KeepA w w'' := fun k cur hk => (h' k cur ((h k cur hk).trans hk)).trans (h k cur hk)
theorem keepA_below {w w' : World} (hb : Below w.heap.size w w') : KeepA w w' := fun k cur hk => hb.block k (Array.getElem?_eq_some_iff.1 hk).1
theorem keepA_own {w w' : World} {B : Nat} {v : Value} {A : List A2} (h : OwnA w B v A) (hk : KeepA w w') : OwnA w' B v A := by
  obtain ⟨hl, h⟩ := h
  refine ⟨hl, ?_⟩
  rcases h with h | ⟨g, cap, cur, h1, h2, h3, h4⟩
  · exact Or.inl h
  · exact Or.inr ⟨g, cap, cur, h1, h2, (hk g cur h3).trans h3, h4⟩
theorem AreO.keep {w w' : World} {B : Nat} {D : List CV} {E : List C5} (h : AreO w B D E) (hk : KeepA w w') : AreO w' B D E := All2.imp (fun d e h => ⟨h.1, h.2.1, h.2.2.1, keepA_own h.2.2.2 hk⟩) h
theorem forall2_append {α β : Type} {R : α → β → Prop} : ∀ {a c : List α} {b d : List β}, All2 R a b → All2 R c d → All2 R (a ++ c) (b ++ d)
  | _, _, _, _, .nil, h => h
  | _, _, _, _, .cons h t, h' => .cons h (forall2_append t h')
theorem forall2_len {α β : Type} {R : α → β → Prop} : ∀ {a : List α} {b : List β}, All2 R a b → a.length = b.length
  | _, _, .nil => rfl
  | _, _, .cons _ t => by simp [forall2_len t]
theorem forall2_get {α β : Type} {R : α → β → Prop} : ∀ {a : List α} {b : List β}, All2 R a b → ∀ (i : Nat) (x : α), a[i]? = some x → ∃ y, b[i]? = some y ∧ R x y
  | _, _, .nil, i, x, h => by simp at h
  | _, _, .cons hr t, 0, x, h => ⟨_, rfl, by simp at h; exact h ▸ hr⟩
  | _, _, .cons hr t, i + 1, x, h => by simpa using forall2_get t i x (by simpa using h)
/-- An operation whose guard lets it through. -/
theorem wpList_strike {w : World} {ops : Array Oper} {rest : List Oper} {o : Oper} {a : Act} {Q : Exit → Act → World → Prop} (hw : Region.wanted o (yielded ops a.tmps) = true)
    (h : wpList Tryd.prog ops Q ({ o with guard := none } :: rest) a w) : wpList Tryd.prog ops Q (o :: rest) a w := by
  unfold wpList at h ⊢
  rw [if_pos hw]
  rw [if_pos (by simp [Region.wanted])] at h
  exact h
end Go.Proofs.YtigmhbgdnmkooaaDoor

/- Rows of operations as they lie in memory. -/
namespace Go.Proofs.YtigmhbgdnmkooaaDoor
open Go Go.RowKit Go.Lib
set_option linter.unusedVariables false

/-- An operation as it lies in memory: its fields, its list as a slice. -/
abbrev OV : Type := Int × ByteArray × P3 × Int × Sl
abbrev ovC (d : OV) : Array Value := #[.int .i64 d.1, .string d.2.1, .int .i64 d.2.2.1.1, .int .i64 d.2.2.1.2.1, .string d.2.2.1.2.2, .int .i64 d.2.2.2.1, slV d.2.2.2.2]
abbrev ovV (d : OV) : Value := .agg (ovC d)
def cellsO : List OV → List Value
  | [] => []
  | d :: r => .int .i64 d.1 :: .string d.2.1 :: .int .i64 d.2.2.1.1 :: .int .i64 d.2.2.1.2.1 :: .string d.2.2.1.2.2 :: .int .i64 d.2.2.2.1 :: slV d.2.2.2.2 :: cellsO r
theorem cellsO_len : ∀ L : List OV, (cellsO L).length = L.length * 7
  | [] => rfl
  | q :: r => by simp [cellsO, cellsO_len r]; omega
theorem cellsO_append : ∀ L M : List OV, cellsO (L ++ M) = cellsO L ++ cellsO M
  | [], M => rfl
  | q :: r, M => by simp [cellsO, cellsO_append r M]
theorem cellsO_one : ∀ (L : List OV), ∀ u ∈ cellsO L, u.oneCell' = true
  | [], u, h => by cases h
  | q :: r, u, h => by
    simp only [cellsO, List.mem_cons] at h
    rcases h with rfl | rfl | rfl | rfl | rfl | rfl | rfl | h
    · rfl
    · rfl
    · rfl
    · rfl
    · rfl
    · rfl
    · rfl
    · exact cellsO_one r u h
theorem cellsO_get : ∀ (L : List OV) (i : Nat) (d : OV), L[i]? = some d → (cellsO L)[i * 7]? = some (.int .i64 d.1) ∧ (cellsO L)[i * 7 + 1]? = some (.string d.2.1) ∧ (cellsO L)[i * 7 + 2]? = some (.int .i64 d.2.2.1.1) ∧ (cellsO L)[i * 7 + 3]? = some (.int .i64 d.2.2.1.2.1) ∧ (cellsO L)[i * 7 + 4]? = some (.string d.2.2.1.2.2) ∧ (cellsO L)[i * 7 + 5]? = some (.int .i64 d.2.2.2.1) ∧ (cellsO L)[i * 7 + 6]? = some (slV d.2.2.2.2)
  | [], i, q, h => by simp at h
  | p :: r, 0, q, h => by
    obtain rfl : p = q := by simpa using h
    exact ⟨rfl, rfl, rfl, rfl, rfl, rfl, rfl⟩
  | p :: r, i + 1, q, h => by
    have := cellsO_get r i q (by simpa using h)
    rw [show (i + 1) * 7 = i * 7 + 1 + 1 + 1 + 1 + 1 + 1 + 1 by omega]
    simpa [cellsO] using this
/-- An operation at a place. -/
structure OpAt (w : World) (b off : Nat) (d : OV) : Prop where
  c0 : w.cell? ⟨b, off, none⟩ = some (.int .i64 d.1)
  c1 : w.cell? ⟨b, off + 1, none⟩ = some (.string d.2.1)
  c2 : w.cell? ⟨b, off + 2, none⟩ = some (.int .i64 d.2.2.1.1)
  c3 : w.cell? ⟨b, off + 3, none⟩ = some (.int .i64 d.2.2.1.2.1)
  c4 : w.cell? ⟨b, off + 4, none⟩ = some (.string d.2.2.1.2.2)
  c5 : w.cell? ⟨b, off + 5, none⟩ = some (.int .i64 d.2.2.2.1)
  c6 : w.cell? ⟨b, off + 6, none⟩ = some (slV d.2.2.2.2)
theorem OpAt.lt {w : World} {b off : Nat} {d : OV} (h : OpAt w b off d) : b < w.heap.size := lt_of_cell h.c0
theorem OpAt.same {w w' : World} {b off : Nat} {d : OV} (h : OpAt w b off d) (e : ∀ i, w'.cell? ⟨b, i, none⟩ = w.cell? ⟨b, i, none⟩) : OpAt w' b off d :=
  ⟨(e _).trans h.c0, (e _).trans h.c1, (e _).trans h.c2, (e _).trans h.c3, (e _).trans h.c4, (e _).trans h.c5, (e _).trans h.c6⟩
theorem OpAt.below {w w' : World} {b off : Nat} {d : OV} (h : OpAt w b off d) (hb : Below w.heap.size w w') : OpAt w' b off d := h.same fun i => World.cell?_of_block (a := ⟨b, i, none⟩) (hb.block b h.lt)
/-- A slice of operations, as it lies in memory. -/
def RowO (w : World) (v : Value) (D : List OV) : Prop :=
  ∃ p cap, v = .slice p D.length cap ∧ D.length ≤ cap ∧ (p = none → cap = 0) ∧ ∀ (j : Nat) (d : OV), D[j]? = some d → ∃ b off, p = some ⟨b, off, none⟩ ∧ OpAt w b (off + j * 7) d
theorem RowO.below {w w' : World} {v : Value} {D : List OV} (h : RowO w v D) (hb : Below w.heap.size w w') : RowO w' v D := by
  obtain ⟨p, cap, rfl, hl, hn, hc⟩ := h
  exact ⟨p, cap, rfl, hl, hn, fun j d hd => by obtain ⟨b, off, hp, h0⟩ := hc j d hd; exact ⟨b, off, hp, h0.below hb⟩⟩
theorem RowO.nil (w : World) : RowO w (.slice none 0 0) [] := ⟨none, 0, rfl, Nat.le_refl _, fun _ => rfl, fun j d h => by simp at h⟩
end Go.Proofs.YtigmhbgdnmkooaaDoor

/- What vellumspare.Copy makes: operations with spare room; what writing over them leaves. -/
namespace Go.Proofs.YtigmhbgdnmkooaaDoor
open Go Go.RowKit Go.Lib
set_option linter.unusedVariables false

/-- But for the blocks between two marks the memory stands, and all blocks keep their shape. -/
structure Out (lo hi : Nat) (w w' : World) : Prop where
  os : w'.os = w.os
  tape : w'.tape = w.tape
  output : w'.output = w.output
  size : w.heap.size ≤ w'.heap.size
  block : ∀ k, k < w.heap.size → (k < lo ∨ hi ≤ k) → w'.heap[k]? = w.heap[k]?
  shape : ∀ (k : Nat) (cur : Array Value) (e : TypeId) (fz : Nat × Nat), w.heap[k]? = some (.cells cur e fz) → k < hi → ∃ cur' : Array Value, w'.heap[k]? = some (.cells cur' e fz) ∧ cur'.size = cur.size
theorem Out.refl (lo hi : Nat) (w : World) : Out lo hi w w := ⟨rfl, rfl, rfl, Nat.le_refl _, fun _ _ _ => rfl, fun k cur e fz h _ => ⟨cur, h, rfl⟩⟩
theorem Out.trans {lo hi : Nat} {a b c : World} (h : Out lo hi a b) (k : Out lo hi b c) : Out lo hi a c :=
  ⟨k.os.trans h.os, k.tape.trans h.tape, k.output.trans h.output, Nat.le_trans h.size k.size, fun i hi ho => (k.block i (Nat.lt_of_lt_of_le hi h.size) ho).trans (h.block i hi ho), fun i cur e fz hc hi => by
    obtain ⟨c1, h1, s1⟩ := h.shape i cur e fz hc hi
    obtain ⟨c2, h2, s2⟩ := k.shape i c1 e fz h1 hi
    exact ⟨c2, h2, s2.trans s1⟩⟩
theorem Out.of_below {lo hi : Nat} {w w' : World} (h : Below w.heap.size w w') : Out lo hi w w' :=
  ⟨h.os, h.tape, h.output, h.size, fun k hk _ => h.block k hk, fun k cur e fz hc _ => ⟨cur, (h.block k (Array.getElem?_eq_some_iff.1 hc).1).trans hc, rfl⟩⟩
theorem Out.drew {lo hi : Nat} {w w' : World} (h : Out lo hi w w') : Out lo hi w w'.drew := ⟨h.os, h.tape, h.output, h.size, h.block, h.shape⟩
theorem heap_set_at (w : World) (g j : Nat) (u : Value) (cur : Array Value) (e : TypeId) (f : Nat × Nat) (h : w.heap[g]? = some (.cells cur e f)) : (w.setCell ⟨g, j, none⟩ u).heap[g]? = some (.cells (cur.setIfInBounds j u) e f) := by
  simp [World.setCell, Array.getElem?_modify, h]
theorem Out.setCell {lo hi : Nat} {w w' : World} (h : Out lo hi w w') (g j : Nat) (u : Value) (h1 : lo ≤ g) (h2 : g < hi) : Out lo hi w (w'.setCell ⟨g, j, none⟩ u) := by
  refine h.trans ⟨rfl, rfl, rfl, by simp, fun k hk ho => Below.heap_setCell _ _ _ _ (by show k ≠ g; omega), fun k cur e fz hc _ => ?_⟩
  by_cases hg : k = g
  · subst hg
    exact ⟨_, heap_set_at _ _ _ _ _ _ _ hc, by simp⟩
  · exact ⟨cur, (Below.heap_setCell _ _ _ _ hg).trans hc, rfl⟩
theorem Out.below {lo hi : Nat} {w w' : World} (h : Out lo hi w w') (hl : lo ≤ w.heap.size) : Below lo w w' := ⟨h.os, h.tape, h.output, h.size, fun k hk => h.block k (by omega) (Or.inl hk)⟩
theorem Out.own {lo hi B : Nat} {w w' : World} (h : Out lo hi w w') (hB : hi ≤ B) {e : TypeId} {sz n : Nat} {v : Value} {xs : List Value} (o : w.ownsRow B e sz v n xs) : w'.ownsRow B e sz v n xs :=
  owns_same o fun k hk => by
    obtain ⟨h1, cur, h2⟩ := owns_block o k hk
    exact h.block k (Array.getElem?_eq_some_iff.1 h2).1 (Or.inr (by omega))

/-- A list with a mark behind its end, in blocks between two marks. -/
def SpA (w : World) (lo hi : Nat) (s : Sl) (A : List A2) : Prop :=
  (A = [] ∧ s = (none, 0, 0)) ∨ ∃ g c, A ≠ [] ∧ s = (some ⟨g, 0, none⟩, A.length, c) ∧ lo ≤ g ∧ g < hi ∧ A.length ≤ c ∧ OwnA w lo (.slice (some ⟨g, 0, none⟩) (A ++ [s1]).length c) (A ++ [s1])
theorem SpA.below {w w' : World} {lo hi hi' : Nat} {s : Sl} {A : List A2} (h : SpA w lo hi s A) (b : Below w.heap.size w w') (hh : hi ≤ hi') : SpA w' lo hi' s A := by
  rcases h with h | ⟨g, c, h1, h2, h3, h4, h5, h6⟩
  · exact Or.inl h
  · exact Or.inr ⟨g, c, h1, h2, h3, by omega, h5, owns_below h6 b⟩
theorem SpA.keep {w w' : World} {lo hi hi' : Nat} {s : Sl} {A : List A2} (h : SpA w lo hi s A) (b : KeepA w w') (hh : hi ≤ hi') : SpA w' lo hi' s A := by
  rcases h with h | ⟨g, c, h1, h2, h3, h4, h5, h6⟩
  · exact Or.inl h
  · exact Or.inr ⟨g, c, h1, h2, h3, by omega, h5, keepA_own h6 b⟩
theorem SpA.RN {w : World} {lo hi : Nat} {s : Sl} {A : List A2} (h : SpA w lo hi s A) : RN w (slV s) A := by
  rcases h with ⟨rfl, rfl⟩ | ⟨g, c, h1, rfl, h3, h4, h5, h6⟩
  · exact RN.nil w
  · obtain ⟨p, c', he, hc, hr⟩ := own_rowA h6
    simp only [Value.slice.injEq] at he
    obtain ⟨rfl, -, rfl⟩ := he
    refine ⟨⟨_, _, rfl, by simp at hc; omega, fun j x hx => hr j x ?_⟩, fun m c h => by simp at h⟩
    rw [List.getElem?_append_left (List.getElem?_eq_some_iff.1 hx).1]; exact hx
theorem SpA.upto {w w' : World} {lo hi hi' : Nat} {s : Sl} {A : List A2} (h : SpA w lo hi s A) (b : Below hi w w') (hh : hi ≤ hi') : SpA w' lo hi' s A := by
  rcases h with h | ⟨g, c, h1, h2, h3, h4, h5, h6⟩
  · exact Or.inl h
  · exact Or.inr ⟨g, c, h1, h2, h3, by omega, h5, owns_same h6 fun k hk => b.block k (by simp only [Value.ownBlock, Option.some.injEq] at hk; omega)⟩
theorem SpA.setBelow {w : World} {lo hi : Nat} {s : Sl} {A : List A2} (h : SpA w lo hi s A) {g : Nat} (hg : g < lo) (j : Nat) (u : Value) : SpA (w.setCell ⟨g, j, none⟩ u) lo hi s A := by
  rcases h with h | ⟨g', c, h1, h2, h3, h4, h5, h6⟩
  · exact Or.inl h
  · exact Or.inr ⟨g', c, h1, h2, h3, h4, h5, ownsRow_setCell_below h6 (a := ⟨g, j, none⟩) hg u⟩
theorem SpA.lower {w : World} {lo lo' hi : Nat} {s : Sl} {A : List A2} (h : SpA w lo hi s A) (hh : lo' ≤ lo) : SpA w lo' hi s A := by
  rcases h with h | ⟨g', c, h1, h2, h3, h4, h5, h6⟩
  · exact Or.inl h
  · exact Or.inr ⟨g', c, h1, h2, by omega, h4, h5, own_weaken h6 hh⟩
abbrev d77 : OV := (77, ⟨#[]⟩, z0, 0, (none, 0, 0))
/-- What an operation in memory is, its list with spare room. -/
def SpD (w : World) (lo hi : Nat) (D : List OV) (E : List Op5) : Prop := All2 (fun (d : OV) (e : Op5) => d.1 = e.k ∧ d.2.1 = e.t ∧ d.2.2.1 = e.v ∧ d.2.2.2.1 = e.c ∧ SpA w lo hi d.2.2.2.2 e.A) D E
/-- What operations in memory are. -/
def ReD (w : World) (D : List OV) (E : List Op5) : Prop := All2 (fun (d : OV) (e : Op5) => d.1 = e.k ∧ d.2.1 = e.t ∧ d.2.2.1 = e.v ∧ d.2.2.2.1 = e.c ∧ RN w (slV d.2.2.2.2) e.A) D E
theorem SpD.below {w w' : World} {lo hi hi' : Nat} {D : List OV} {E : List Op5} (h : SpD w lo hi D E) (b : Below w.heap.size w w') (hh : hi ≤ hi') : SpD w' lo hi' D E := All2.imp (fun d e h => ⟨h.1, h.2.1, h.2.2.1, h.2.2.2.1, h.2.2.2.2.below b hh⟩) h
theorem SpD.keep {w w' : World} {lo hi hi' : Nat} {D : List OV} {E : List Op5} (h : SpD w lo hi D E) (b : KeepA w w') (hh : hi ≤ hi') : SpD w' lo hi' D E := All2.imp (fun d e h => ⟨h.1, h.2.1, h.2.2.1, h.2.2.2.1, h.2.2.2.2.keep b hh⟩) h
theorem SpD.upto {w w' : World} {lo hi hi' : Nat} {D : List OV} {E : List Op5} (h : SpD w lo hi D E) (b : Below hi w w') (hh : hi ≤ hi') : SpD w' lo hi' D E := All2.imp (fun d e h => ⟨h.1, h.2.1, h.2.2.1, h.2.2.2.1, h.2.2.2.2.upto b hh⟩) h
theorem SpD.re {w : World} {lo hi : Nat} {D : List OV} {E : List Op5} (h : SpD w lo hi D E) : ReD w D E := All2.imp (fun d e h => ⟨h.1, h.2.1, h.2.2.1, h.2.2.2.1, h.2.2.2.2.RN⟩) h
theorem ReD.below {w w' : World} {D : List OV} {E : List Op5} (h : ReD w D E) (b : Below w.heap.size w w') : ReD w' D E := All2.imp (fun d e h => ⟨h.1, h.2.1, h.2.2.1, h.2.2.2.1, h.2.2.2.2.below b⟩) h
/-- A row of operations to read. -/
def ReO (w : World) (v : Value) (E : List Op5) : Prop := ∃ D, RowO w v D ∧ ReD w D E
theorem ReO.below {w w' : World} {v : Value} {E : List Op5} (h : ReO w v E) (b : Below w.heap.size w w') : ReO w' v E := by
  obtain ⟨D, h1, h2⟩ := h
  exact ⟨D, h1.below b, h2.below b⟩
end Go.Proofs.YtigmhbgdnmkooaaDoor
