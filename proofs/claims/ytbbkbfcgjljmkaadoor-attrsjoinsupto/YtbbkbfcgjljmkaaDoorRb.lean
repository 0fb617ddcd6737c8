/- What vellumref03.Between answers. -/
import Derived.Test.YtbbkbfcgjljmkaaDoorRj
import Derived.Test.YtbbkbfcgjljmkaaDoorRq
import Derived.Deep.DeepCutAuto
namespace Go.Proofs.YtbbkbfcgjljmkaaDoor
open Go Go.RowKit Go.Lib
set_option linter.unusedVariables false

/-- Between two marks the memory stands. -/
structure Mid (c : Nat) (u w : World) : Prop where
  size : u.heap.size ≤ w.heap.size
  cell : ∀ g i, c < g → g < u.heap.size → w.cell? ⟨g, i, none⟩ = u.cell? ⟨g, i, none⟩
theorem Mid.refl (c : Nat) (u : World) : Mid c u u := ⟨Nat.le_refl _, fun _ _ _ _ => rfl⟩
theorem Mid.below {c : Nat} {u w w' : World} (h : Mid c u w) (b : Below w.heap.size w w') : Mid c u w' :=
  ⟨Nat.le_trans h.size b.size, fun g i h1 h2 => (b.cell (Nat.lt_of_lt_of_le h2 h.size)).trans (h.cell g i h1 h2)⟩
theorem Mid.alloc {c : Nat} {u w : World} (h : Mid c u w) (o : Obj) : Mid c u (w.alloc o) := h.below ((Below.refl _ _).alloc (Nat.le_refl _) o)
theorem Mid.grown {c : Nat} {u w w' : World} {row : Option Nat} (h : Mid c u w) (g : w.grownBy w' row) (hr : ∀ r, row = some r → r = c ∨ u.heap.size ≤ r) : Mid c u w' :=
  ⟨Nat.le_trans h.size g.size, fun k i h1 h2 => (World.cell?_of_block (a := ⟨k, i, none⟩) (g.block k (Nat.lt_of_lt_of_le h2 h.size) (fun e => by have := hr k e.symm; omega))).trans (h.cell k i h1 h2)⟩
theorem PairAt.mid {c : Nat} {u w : World} {b o : Nat} {q : A2} (h : PairAt u b o q) (m : Mid c u w) (hb : c < b) : PairAt w b o q :=
  ⟨(m.cell _ _ hb h.lt).trans h.c0, (m.cell _ _ hb h.lt).trans h.c1, (m.cell _ _ hb h.lt).trans h.c2, (m.cell _ _ hb h.lt).trans h.c3⟩

set_option maxHeartbeats 4000000 in
set_option maxRecDepth 100000 in
theorem bet_any (va vb : Value) (A B : List A2) (w : World) (hA : RowA w va A) (hB : RowA w vb B) (zB : ∀ m c, vb = .slice none m c → m = 0 ∧ c = 0) (uA : Up A) (uB : Up B) (hl : A.length + B.length ≤ 1048576) :
    Calls Tryd.prog 61 #[va, vb] w fun r w' => ∃ v', r = .returned v' ∧ OwnA w' w.heap.size v' (betL A B (jn (chC true) A B)) ∧ Below w.heap.size w w' := by
  obtain ⟨J, hJ⟩ : ∃ J, jn (chC true) A B = J := ⟨_, rfl⟩
  obtain ⟨n, hn⟩ : ∃ n, J.length = n := ⟨_, rfl⟩
  have hnl : n ≤ 1048576 := by have := jn_len (chC true) A B; rw [hJ, hn] at this; omega
  have HH : Hid (∀ W, Below w.heap.size w W → ∀ key, Calls Tryd.prog 17 #[va, .string key] W fun r w' => r = .returned (.tuple #[plV ((look key A).getD z0), .bool (look key A).isSome]) ∧ Below W.heap.size W w') := fun W hW key => has_any va A key W (hA.below hW) (by omega)
  have HI : Hid (∀ W, Below w.heap.size w W → ∀ key, Calls Tryd.prog 17 #[vb, .string key] W fun r w' => r = .returned (.tuple #[plV ((look key B).getD z0), .bool (look key B).isSome]) ∧ Below W.heap.size W w') := fun W hW key => has_any vb B key W (hB.below hW) (by omega)
  have HJ : Hid (∀ W, Below w.heap.size w W → Calls Tryd.prog 55 #[va, vb] W fun r w' => ∃ v', r = .returned v' ∧ OwnA w' W.heap.size v' J ∧ Below W.heap.size W w') := fun W hW => by
    rw [← hJ]
    exact join_ref va vb A B W (hA.below hW) (hB.below hW) zB uA uB hl
  obtain ⟨pa, ca, rfl, _⟩ := hA.val
  obtain ⟨pb, cb, rfl, _⟩ := hB.val
  rw [hJ]
  have HN : Hid (J.length = n) := hn
  clear hA hB zB uA uB hl hJ hn
  obtain ⟨W1, hW1⟩ : ∃ W, W = w.alloc (.cells #[] 48) := ⟨_, rfl⟩
  have o1 : OwnA W1 w.heap.size (.slice (some ⟨w.heap.size, 0, none⟩) 0 0) [] := by rw [hW1]; exact own_empty' w w.heap.size (Nat.le_refl _)
  have b1 : Below w.heap.size w W1 := by rw [hW1]; exact (Below.refl w.heap.size w).alloc (Nat.le_refl _) _
  have cJ := HJ.out W1 b1
  clear HJ
  go_enter Tryd.func61, Tryd.ntmps61
  go_wp2_with fail
  obtain ⟨v0, hv0⟩ : ∃ v0 : Value, v0 = .slice (some ⟨w.heap.size, 0, none⟩) 0 0 := ⟨_, rfl⟩
  rw [← hv0] at o1 ⊢
  rw [← hW1]
  have hsz : W1.heap.size = w.heap.size + 1 := by rw [hW1]; simp
  have kE : ∀ g, v0.ownBlock = some g → g = w.heap.size := fun g hg => by rw [hv0] at hg; exact (Option.some.inj hg).symm
  clear hv0 hW1
  refine cJ.mono ?_; rintro r w2 ⟨vj, rfl, oj, b2⟩
  have bE := b1.trans (b2.mono b1.size)
  have oE : OwnA w2 w.heap.size v0 [] := owns_below o1 b2
  have rJ := own_rowA oj
  have kJ : ∀ g, vj.ownBlock = some g → w.heap.size < g := fun g hg => by
    have h1 := (owns_block oj g hg).1
    have h2 : W1.heap.size = w.heap.size + 1 := hsz
    omega
  clear cJ o1 b1 b2 oj hsz
  obtain ⟨pj, cj, rfl, hcj, hc⟩ := rJ
  rw [HN.out] at hcj kJ ⊢
  have HC : Hid (∀ (j : Nat) (q : A2), J[j]? = some q → ∃ b off, pj = some ⟨b, off, none⟩ ∧ w.heap.size < b ∧ PairAt w2 b (off + j * 4) q) := fun j q hq => by
    obtain ⟨b, off, rfl, h⟩ := hc j q hq
    exact ⟨b, off, rfl, kJ b rfl, h⟩
  clear hc kJ
  go_wp2_with fail
  go_loopw [5, 17] (fun out i wr => ∃ k : Nat, k ≤ n ∧ i = .int .i64 k ∧ OwnA wr w.heap.size out (betL A B (J.take k)) ∧ Below w.heap.size w wr ∧ Hid (Mid w.heap.size w2 wr) ∧ Hid (∀ g, out.ownBlock = some g → g = w.heap.size ∨ w2.heap.size ≤ g)) (fun _ i _ => n - (RowKit.intOf i).toNat)
  case atStart => exact ⟨0, Nat.zero_le _, rfl, oE, bE, Mid.refl _ _, fun g hg => Or.inl (kE g hg)⟩
  case round =>
    obtain ⟨k, hk, rfl, own, bw, bv, kv⟩ := hrel
    clear oE bE kE
    by_cases hlt : k < n
    · have hltI : (k : Int) < n := by omega
      obtain ⟨q, hq⟩ : ∃ q, J[k]? = some q := ⟨_, List.getElem?_eq_getElem (by rw [HN.out]; exact hlt)⟩
      obtain ⟨b, off, rfl, hbb, hp⟩ := HC.out k q hq
      obtain ⟨c0, c1, c2, c3⟩ := hp.mid bv.out hbb
      clear hbb
      obtain ⟨qk, qx, qn, qt⟩ := q
      simp only at c0 c1 c2 c3
      have hlen : Hid ((betL A B (J.take k)).length ≤ 1048676) := by show _ ≤ _; have h1 := (show (betL A B (J.take k)).length ≤ (J.take k).length from List.length_filterMap_le _ _); rw [List.length_take] at h1; omega
      have HO : Hid (OwnA wr w.heap.size u5 (betL A B (J.take k))) := own
      have HS := filterMap_step (p := fun x : A2 => if (look x.1 A).getD z0 = (look x.1 B).getD z0 then none else some (x.1, (look x.1 B).getD z0)) (L := J) (k := k) hq
      clear hp hq own
      have cH := fun W (hW : Below w.heap.size w W) => HH.out W hW qk
      have cI := fun W (hW : Below w.heap.size w W) => HI.out W hW qk
      obtain ⟨T, hT⟩ : ∃ T, (look qk A).isSome = T := ⟨_, rfl⟩
      obtain ⟨T', hT'⟩ : ∃ T, (look qk B).isSome = T := ⟨_, rfl⟩
      obtain ⟨P, hP⟩ : ∃ P, (look qk A).getD z0 = P := ⟨_, rfl⟩
      obtain ⟨R, hR⟩ : ∃ R, (look qk B).getD z0 = R := ⟨_, rfl⟩
      rw [hT, hP] at cH
      rw [hT', hR] at cI
      simp only [hP, hR] at HS
      have HS' : Hid (betL A B (J.take (k + 1)) = betL A B (J.take k) ++ (if P = R then none else some (qk, R)).toList) := HS
      clear HS hT hT' hP hR
      obtain ⟨p1, p2, p3⟩ := P
      obtain ⟨r1, r2, r3⟩ := R
      obtain ⟨E, hE⟩ : ∃ E, wr.heap.size = E := ⟨_, rfl⟩
      go_wp2_with fail
      obtain ⟨W3, hW3⟩ : ∃ W, W = wr.alloc (.cells #[.string qk, .int .i64 qx, .int .i64 qn, .string qt] 48) := ⟨_, rfl⟩
      have b3 : Below w.heap.size w W3 := by rw [hW3]; exact bw.alloc bw.size _
      have v3 : Hid (Mid w.heap.size w2 W3) := by rw [hW3]; exact bv.out.alloc _
      have p3' : PairAt W3 E 0 (qk, qx, qn, qt) := by rw [hW3, ← hE]; exact ⟨by simp, by simp, by simp, by simp⟩
      have O3 : Hid (OwnA W3 w.heap.size u5 (betL A B (J.take k))) := by rw [hW3]; exact owns_below HO.out ((Below.refl _ _).alloc (Nat.le_refl _) _)
      rw [← hW3]
      clear hW3 hE HO c0 c1 c2 c3 bw bv
      refine (cH _ b3).mono ?_; rintro r w4 ⟨rfl, b4⟩
      clear cH
      have p4 := p3'.below b4
      have O4 : Hid (OwnA w4 w.heap.size u5 (betL A B (J.take k))) := owns_below O3.out b4
      have b5 := b3.trans (b4.mono b3.size)
      have v5 : Hid (Mid w.heap.size w2 w4) := v3.out.below b4
      clear b3 v3 p3' O3 b4
      obtain ⟨F, hF⟩ : ∃ F, w4.heap.size = F := ⟨_, rfl⟩
      have e0 := p4.c0
      have hEF : E < F := by rw [← hF]; exact lt_of_cell e0
      have f1 : ¬ E = F := by omega
      have f2 : ¬ F = E := by omega
      obtain ⟨W5, hW5⟩ : ∃ W, W = w4.alloc (.cells #[.int .i64 p1, .int .i64 p2, .string p3] 36) := ⟨_, rfl⟩
      have b6 : Below w.heap.size w W5 := by rw [hW5]; exact b5.alloc b5.size _
      have v6 : Hid (Mid w.heap.size w2 W5) := by rw [hW5]; exact v5.out.alloc _
      have p6 : PairAt W5 E 0 (qk, qx, qn, qt) := by rw [hW5]; exact p4.below ((Below.refl _ _).alloc (Nat.le_refl _) _)
      have x0 : (w4.alloc (.cells #[.int .i64 p1, .int .i64 p2, .string p3] 36)).cell? ⟨E, 0, none⟩ = some (.string qk) := by rw [← hW5]; exact p6.c0
      have O6 : Hid (OwnA W5 w.heap.size u5 (betL A B (J.take k))) := by rw [hW5]; exact owns_below O4.out ((Below.refl _ _).alloc (Nat.le_refl _) _)
      have P6 : Hid (W5.cell? ⟨F, 0, none⟩ = some (.int .i64 p1) ∧ W5.cell? ⟨F, 1, none⟩ = some (.int .i64 p2) ∧ W5.cell? ⟨F, 2, none⟩ = some (.string p3)) := by rw [hW5, ← hF]; exact ⟨by simp, by simp, by simp⟩
      clear p4 O4 b5 v5
      go_wp2_with fail
      rw [← hW5]
      clear hW5 x0 e0 hF
      refine (cI _ b6).mono ?_; rintro r w7 ⟨rfl, b7⟩
      clear cI
      have p7 := p6.below b7
      have P7 : Hid (w7.cell? ⟨F, 0, none⟩ = some (.int .i64 p1) ∧ w7.cell? ⟨F, 1, none⟩ = some (.int .i64 p2) ∧ w7.cell? ⟨F, 2, none⟩ = some (.string p3)) := ⟨(b7.cell (lt_of_cell P6.out.1)).trans P6.out.1, (b7.cell (lt_of_cell P6.out.2.1)).trans P6.out.2.1, (b7.cell (lt_of_cell P6.out.2.2)).trans P6.out.2.2⟩
      have O7 : Hid (OwnA w7 w.heap.size u5 (betL A B (J.take k))) := owns_below O6.out b7
      have b8 := b6.trans (b7.mono b6.size)
      have v8 : Hid (Mid w.heap.size w2 w7) := v6.out.below b7
      clear b6 v6 p6 O6 P6 b7
      obtain ⟨G, hG⟩ : ∃ G, w7.heap.size = G := ⟨_, rfl⟩
      have hFG : F < G := by rw [← hG]; exact lt_of_cell P7.out.1
      have f3 : ¬ E = G := by omega
      have f4 : ¬ G = E := by omega
      have f5 : ¬ F = G := by omega
      have f6 : ¬ G = F := by omega
      go_upto_region 7 with fail
      obtain ⟨W9, hW9⟩ : ∃ W, W = w7.alloc (.cells #[.int .i64 r1, .int .i64 r2, .string r3] 36) := ⟨_, rfl⟩
      have b9 : Below w.heap.size w W9 := by rw [hW9]; exact b8.alloc b8.size _
      have v9 : Hid (Mid w.heap.size w2 W9) := by rw [hW9]; exact v8.out.alloc _
      have p9 : PairAt W9 E 0 (qk, qx, qn, qt) := by rw [hW9]; exact p7.below ((Below.refl _ _).alloc (Nat.le_refl _) _)
      have bx : Below w7.heap.size w7 W9 := by rw [hW9]; exact (Below.refl _ _).alloc (Nat.le_refl _) _
      have P9 : W9.cell? ⟨F, 0, none⟩ = some (.int .i64 p1) ∧ W9.cell? ⟨F, 1, none⟩ = some (.int .i64 p2) ∧ W9.cell? ⟨F, 2, none⟩ = some (.string p3) := ⟨(bx.cell (lt_of_cell P7.out.1)).trans P7.out.1, (bx.cell (lt_of_cell P7.out.2.1)).trans P7.out.2.1, (bx.cell (lt_of_cell P7.out.2.2)).trans P7.out.2.2⟩
      have R9 : W9.cell? ⟨G, 0, none⟩ = some (.int .i64 r1) ∧ W9.cell? ⟨G, 1, none⟩ = some (.int .i64 r2) ∧ W9.cell? ⟨G, 2, none⟩ = some (.string r3) := by rw [hW9, ← hG]; exact ⟨by simp, by simp, by simp⟩
      have O9 : Hid (OwnA W9 w.heap.size u5 (betL A B (J.take k))) := owns_below O7.out bx
      rw [← hW9]
      clear hW9 p7 P7 O7 b8 v8 hG bx
      obtain ⟨m0, m1, m2⟩ := P9
      obtain ⟨n0, n1, n2⟩ := R9
      have e0 := p9.c0
      simp only at e0
      clear p9
      have gd := fun op x y w => guard_pl op x y (p1, p2, p3) (r1, r2, r3) w
      by_cases he : ((p1, p2, p3) : P3) = (r1, r2, r3)
      · have hne := neq_pl (p1, p2, p3) (r1, r2, r3) false (by rw [he, samP_self]; rfl)
        have HR : Hid (betL A B (J.take (k + 1)) = betL A B (J.take k)) := by
          show _ = _
          rw [HS'.out, if_pos he]; simp
        clear HS' he
        go_wp2_with fail
        go_roundw
        case rel => exact ⟨k + 1, by omega, by go_num, by rw [HR.out]; exact O9.out, b9, v9, kv⟩
        case measure => simp [RowKit.intOf]; omega
      · have hne := neq_pl (p1, p2, p3) (r1, r2, r3) true (by rw [samP_ne he]; rfl)
        have HR : Hid (betL A B (J.take (k + 1)) = betL A B (J.take k) ++ [(qk, r1, r2, r3)]) := by
          show _ = _
          rw [HS'.out, if_neg he]; rfl
        clear HS' he
        have o6 := owns_below O9.out ((Below.refl W9.heap.size W9).alloc (Nat.le_refl _) (.cells #[.string qk, .int .i64 r1, .int .i64 r2, .string r3] 48))
        have b7 := b9.alloc b9.size (.cells #[.string qk, .int .i64 r1, .int .i64 r2, .string r3] 48)
        have v7 : Hid (Mid w.heap.size w2 (W9.alloc (.cells #[.string qk, .int .i64 r1, .int .i64 r2, .string r3] 48))) := v9.out.alloc _
        have hge : ∀ j, u5.ownBlock = some j → w.heap.size ≤ j := fun j hj => (owns_block o6 j hj).1
        go_wp2_with (at_builtin; refine wpList_append_atx rfl (.tmp 38) (.tmp 43) rfl w.heap.size u5 (betL A B (J.take k)) rfl o6 W9.heap.size 0 1 1 [(qk, r1, r2, r3)] rfl rfl (one_at ⟨by simp, by simp, by simp, by simp⟩) (by have := hlen.out; omega) b7.size ?_; intro v' w6 own' gr' hat')
        have b10 := b7.grown gr' b7.size (fun j hj => hge j hj)
        have v10 : Hid (Mid w.heap.size w2 w6) := v7.out.grown gr' kv.out
        have kv' : Hid (∀ g, v'.ownBlock = some g → g = w.heap.size ∨ w2.heap.size ≤ g) := fun g hg => by
          rcases hat' with h | h
          · exact kv.out g (by rw [← h]; exact hg)
          · rw [h] at hg
            have h1 := Option.some.inj hg
            have h2 := v7.out.size
            omega
        go_roundw
        case rel => exact ⟨k + 1, by omega, by go_num, by rw [HR.out]; exact own', b10, v10, kv'⟩
        case measure => simp [RowKit.intOf]; omega
    · have hltI : ¬ (k : Int) < n := by omega
      have HO : Hid (OwnA wr w.heap.size u5 (betL A B J)) := by
        show OwnA _ _ _ _
        rw [List.take_of_length_le (by rw [HN.out]; omega)] at own
        exact own
      clear own
      go_wp2
      go_ret
      exact ⟨_, rfl, HO.out, bw⟩
end Go.Proofs.YtbbkbfcgjljmkaaDoor
