/- content.textCells: the cells of a text. -/
import Derived.Test.YtecmdlecfddeeaaDoorCe
import Derived.Test.YtecmdlecfddeeaaDoorCj
import Derived.Laws.MakeOwn
namespace Go.Proofs.YtecmdlecfddeeaaDoor
open Go Go.RowKit Go.Lib
set_option linter.unusedVariables false

/-- Cells of scalars with one list. -/
def mkC (A : List A2) (rs : List Nat) : List C5 := rs.map fun (r : Nat) => (((r : Nat) : Int), ⟨#[]⟩, z0, A)
theorem mkC_len (A : List A2) (rs : List Nat) : (mkC A rs).length = rs.length := by simp [mkC]
theorem one_rowC (w : World) (d : CV) : RowC (w.alloc (.cells (ceC d) 47)) (.slice (some ⟨w.heap.size, 0, none⟩) 1 1) [d] :=
  ⟨_, 1, rfl, Nat.le_refl _, fun h => (by cases h), fun _ => ⟨w.heap.size, 0, rfl, fun j u hu => by
    match j, hu with
    | 0, hu => simp [cellsC] at hu; subst hu; simp [ceC]
    | 1, hu => simp [cellsC] at hu; subst hu; simp [ceC]
    | 2, hu => simp [cellsC] at hu; subst hu; simp [ceC]
    | 3, hu => simp [cellsC] at hu; subst hu; simp [ceC]
    | 4, hu => simp [cellsC] at hu; subst hu; simp [ceC]
    | 5, hu => simp [cellsC] at hu; subst hu; simp [ceC]
    | j + 6, hu => simp [cellsC] at hu⟩⟩
theorem keepA_iterAt {w : World} {K : Nat} {s : ByteArray} {p0 : Nat} (hk : w.heap[K]? = some (.stringIter s p0)) (p : Nat) : KeepA w (w.iterAt K s p) := fun k cur hc => by
  have hne : k ≠ K := fun e => by subst e; rw [hk] at hc; cases hc
  simp [World.iterAt, Ne.symm hne]
theorem ownsC_iterAt {w : World} {B : Nat} {v : Value} {D : List CV} (h : OwnC w B v D) {K : Nat} {s : ByteArray} {p0 : Nat} (hk : w.heap[K]? = some (.stringIter s p0)) (p : Nat) : OwnC (w.iterAt K s p) B v D :=
  owns_same h fun k hb => by
    obtain ⟨_, cur, hc⟩ := owns_block h k hb
    have hne : k ≠ K := fun e => by subst e; rw [hk] at hc; cases hc
    simp [World.iterAt, Ne.symm hne]

set_option maxHeartbeats 2000000 in
set_option maxRecDepth 100000 in
theorem textCells_any (p : Option Addr) (c : Nat) (t : ByteArray) (A : List A2) (w : World) (hA : RN w (.slice p A.length c) A) (hu : brk t.data.toList = t.size) (hn : A.length ≤ 2097152) (ht : t.size ≤ 8388608) :
    Calls Tryd.prog 35 #[.agg #[.slice p A.length c, .string t, .int .i64 (scs t.data.toList).length]] w fun r w' => ∃ v' D, r = .returned v' ∧ OwnC w' w.heap.size v' D ∧ AreO w' w.heap.size D (mkC A (scs t.data.toList)) ∧ Below w.heap.size w w' := by
  obtain ⟨h1, h2, h3⟩ := valid_text t hu
  obtain ⟨rs, hrs⟩ : ∃ rs, scs t.data.toList = rs := ⟨_, rfl⟩
  rw [hrs] at h1 h2 h3 ⊢
  obtain ⟨n, hnn⟩ : ∃ n, rs.length = n := ⟨_, rfl⟩
  rw [hnn] at h3 ⊢
  obtain ⟨i0, z0', hi, hz, hz1, hz2, hz3⟩ := infoCe
  have hZ : Hid (i0.zero = some z0' ∧ i0.size = 6 ∧ i0.bytes = 80 ∧ z0'.cells.size = 6) := ⟨hz, hz1, hz2, hz3⟩
  have HV : Hid (t.data.toList = encs rs) := h2
  have HN : Hid (rs.length = n) := hnn
  have HA : Hid (∀ W, Below w.heap.size w W → Calls Tryd.prog 36 #[.agg #[.slice p A.length c]] W fun r w' => ∃ v', r = .returned v' ∧ OwnA w' W.heap.size v' A ∧ Below W.heap.size W w') := fun W hW => attributes_any _ A W (hA.row.below hW) hA.nz (by omega)
  have b1 : Below w.heap.size w (w.alloc (.cells #[.slice p A.length c, .string t, .int .i64 n] 67)) := (Below.refl _ _).alloc (Nat.le_refl _) _
  clear hu hz hz1 hz2 hz3 h2 hnn hA hrs
  obtain ⟨l, hl⟩ : ∃ l, A.length = l := ⟨_, rfl⟩
  rw [hl] at HA b1 hn ⊢
  clear hl
  go_enter Tryd.func35, Tryd.ntmps35
  go_wp2_with (at_make; refine wpList_make_own _ rfl _ _ 35 rfl (w.heap.size + 1) 47 i0 z0' 6 Tryd.underlying35 hi hZ.out.1 hZ.out.2.1 .i64 .i64 _ n rfl rfl rfl (by rw [hZ.out.2.2.1]; omega) (by unfold maxLen; omega) (by simp) ?_; intro w2 hown hgr; have hb2 : Below w.heap.size w w2 := (b1.grown hgr b1.size (fun k hk => by cases hk)); have hB1 : Below (w.heap.size + 1) (w.alloc (.cells #[.slice p l c, .string t, .int .i64 n] 67)) w2 := ((show Below (w.heap.size + 1) (w.alloc (.cells #[.slice p l c, .string t, .int .i64 n] 67)) _ from by have := Below.refl (w.alloc (.cells #[.slice p l c, .string t, .int .i64 n] 67)).heap.size (w.alloc (.cells #[.slice p l c, .string t, .int .i64 n] 67)); rwa [World.size_alloc] at this).grown hgr (by simp) (fun k hk => by cases hk)); have e0 : w2.cell? ⟨w.heap.size, 0, none⟩ = some (.slice p l c) := (by rw [hB1.cell (by show w.heap.size < _; omega)]; simp); have e1 : w2.cell? ⟨w.heap.size, 1, none⟩ = some (.string t) := (by rw [hB1.cell (by show w.heap.size < _; omega)]; simp); have hK : w.heap.size + 1 ≤ w2.heap.size := (by have := hB1.size; simpa using this))
  obtain ⟨v0, hv0⟩ : ∃ v0 : Value, v0 = Value.slice (some ⟨w.heap.size + 1, 0, none⟩) 0 n := ⟨_, rfl⟩
  rw [World.size_alloc, ← hv0] at hown
  rw [← hv0]
  have bi : Below w2.heap.size w2 (w2.iter t 0) := (Below.refl _ _).alloc (Nat.le_refl _) _
  have hst : OwnC (w2.iter t 0) (w.heap.size + 1) v0 [] := owns_below hown bi
  have hit0 : (w2.iter t 0).heap[w2.heap.size]? = some (.stringIter t 0) := World.iter_heap w2 t 0
  have hbi : Below w.heap.size w (w2.iter t 0) := hb2.trans (bi.mono hb2.size)
  have ei : (w2.iter t 0).cell? ⟨w.heap.size, 0, none⟩ = some (.slice p l c) := (bi.cell (lt_of_cell e0)).trans e0
  obtain ⟨K, hKK⟩ : ∃ K, K = w2.heap.size := ⟨_, rfl⟩
  rw [← hKK] at hit0 hK ⊢
  obtain ⟨wi, hwi⟩ : ∃ wi, wi = w2.iter t 0 := ⟨_, rfl⟩
  rw [← hwi] at hst hit0 hbi ei ⊢
  clear hown hgr hb2 hB1 e0 e1 b1 hv0 hKK hwi bi
  go_loopw [3] (fun v wr => ∃ (i : Nat) (D : List CV), i ≤ n ∧ D.length = i ∧ OwnC wr (w.heap.size + 1) v D ∧ AreO wr (w.heap.size + 1) D (mkC A (rs.take i)) ∧ wr.heap[K]? = some (.stringIter t (pos rs i)) ∧ Below w.heap.size w wr ∧ wr.cell? ⟨w.heap.size, 0, none⟩ = some (.slice p l c)) (fun _ wr => t.size - wr.iterPos K)
  case atStart => exact ⟨0, [], Nat.zero_le _, rfl, hst, .nil, hit0, hbi, ei⟩
  case round =>
    clear hst hit0 hbi ei
    obtain ⟨i, D, hin, hDl, hown, hare, hit, hbw, ew⟩ := hrel
    by_cases hlt : i < n
    · obtain ⟨hd, hp⟩ := decode_pos t rs HV.out h1 i (by rw [HN.out]; exact hlt)
      have hps := pos_succ rs i (by rw [HN.out]; exact hlt)
      have hpl := enc_pos (h1 _ (List.getElem_mem (show i < rs.length by rw [HN.out]; exact hlt)))
      have HT : Hid (mkC A (rs.take (i + 1)) = mkC A (rs.take i) ++ [(((rs[i]'(by rw [HN.out]; exact hlt) : Nat) : Int), ⟨#[]⟩, z0, A)]) := by
        show _ = _
        rw [List.take_succ_eq_append_getElem (by rw [HN.out]; exact hlt)]
        simp only [mkC, List.map_append, List.map_cons, List.map_nil]
      obtain ⟨R, hR⟩ : ∃ R, rs[i]'(by rw [HN.out]; exact hlt) = R := ⟨_, rfl⟩
      rw [hR] at hd hps hpl HT
      have hpq : pos rs i < pos rs (i + 1) := by omega
      have hnx : ∀ ty, (Instr.next (.pointer (some ⟨K, 0, none⟩)) true ty).run Tryd.prog wr = .ok (.tuple #[.bool true, .int .i64 (pos rs i), .int .i32 R]) (wr.iterAt K t (pos rs (i + 1))) := fun ty => by
        have := run_next_any_at (P := Tryd.prog) wr K t (pos rs i) ty hit hp
        rw [hd] at this
        rw [this, hps]
      obtain ⟨P, hP⟩ : ∃ P, pos rs i = P := ⟨_, rfl⟩
      obtain ⟨P2, hP2⟩ : ∃ P, pos rs (i + 1) = P := ⟨_, rfl⟩
      have HQ : Hid (pos rs (i + 1) = P2) := hP2
      rw [hP] at hnx hp hpq hit
      rw [hP2] at hnx hpq
      have hown2 := ownsC_iterAt hown hit P2
      have hare2 := hare.keep (keepA_iterAt hit P2)
      have hit2 := iterAt_heap wr K t P P2 hit
      have hbw2 := below_iterAt hbw (Nat.le_of_succ_le hK) t P2
      have hsz2 : K < (wr.iterAt K t P2).heap.size := (Array.getElem?_eq_some_iff.1 hit2).1
      have ew2 : (wr.iterAt K t P2).cell? ⟨w.heap.size, 0, none⟩ = some (.slice p l c) := by
        rw [World.cell?_of_block (a := ⟨w.heap.size, 0, none⟩) (w := wr) (by
          have hne : w.heap.size ≠ K := by omega
          simp [World.iterAt, Ne.symm hne])]
        exact ew
      have hsw : w.heap.size + 1 ≤ (wr.iterAt K t P2).heap.size := by omega
      obtain ⟨W, hW⟩ : ∃ W, W = wr.iterAt K t P2 := ⟨_, rfl⟩
      rw [← hW] at hown2 hit2 hbw2 hsz2 hnx hare2 ew2 hsw
      have cA := HA.out W hbw2
      have hnK : Hid (∀ k, u3.ownBlock = some k → k ≠ K) := fun k hk e => by
        obtain ⟨_, cur, hcur⟩ := owns_block hown2 k hk
        rw [e, hit2] at hcur
        cases hcur
      have hge : Hid (∀ k, u3.ownBlock = some k → w.heap.size + 1 ≤ k) := fun k hk => (owns_block hown2 k hk).1
      have hpos : wr.iterPos K = P := by simp [World.iterPos, hit]
      have HO2 : Hid (OwnC W (w.heap.size + 1) u3 D ∧ AreO W (w.heap.size + 1) D (mkC A (rs.take i))) := ⟨hown2, hare2⟩
      have hlen : D.length + 1 ≤ 33554432 := by omega
      clear hown hare hd hps hpl hR hP hP2 hit hbw hW h1 hown2 hare2 ew
      go_wp2_with fail
      refine cA.mono ?_; rintro r w5 ⟨v5, rfl, own5, hb5⟩
      obtain ⟨p5, c5, rfl⟩ := own_slice own5
      have hs5 := hb5.size
      have b5 := hbw2.trans (hb5.mono hbw2.size)
      have ba : Below w5.heap.size w5 (w5.alloc (.cells (ceC ((R : Int), ⟨#[]⟩, z0, p5, A.length, c5)) 47)) := (Below.refl _ _).alloc (Nat.le_refl _) _
      have b6 := b5.trans (ba.mono b5.size)
      have HR6 : Hid (RowC (w5.alloc (.cells (ceC ((R : Int), ⟨#[]⟩, z0, p5, A.length, c5)) 47)) (.slice (some ⟨w5.heap.size, 0, none⟩) 1 1) [((R : Int), ⟨#[]⟩, z0, p5, A.length, c5)]) := one_rowC w5 _
      have HO6 : Hid (OwnC (w5.alloc (.cells (ceC ((R : Int), ⟨#[]⟩, z0, p5, A.length, c5)) 47)) (w.heap.size + 1) u3 D) := owns_below (owns_below HO2.out.1 hb5) ba
      have HE6 : Hid (AreO (w5.alloc (.cells (ceC ((R : Int), ⟨#[]⟩, z0, p5, A.length, c5)) 47)) (w.heap.size + 1) (D ++ [((R : Int), ⟨#[]⟩, z0, p5, A.length, c5)]) (mkC A (rs.take (i + 1)))) := by
        show AreO _ _ _ _
        rw [HT.out]
        exact forall2_append ((HO2.out.2.keep (keepA_below hb5)).keep (keepA_below ba)) (.cons ⟨rfl, rfl, rfl, own_weaken (owns_below own5 ba) hsw⟩ .nil)
      have hK6 : (w5.alloc (.cells (ceC ((R : Int), ⟨#[]⟩, z0, p5, A.length, c5)) 47)).heap[K]? = some (.stringIter t P2) := by
        rw [Below.heap_alloc _ _ _ (by omega), hb5.block K hsz2]; exact hit2
      have ew6 : (w5.alloc (.cells (ceC ((R : Int), ⟨#[]⟩, z0, p5, A.length, c5)) 47)).cell? ⟨w.heap.size, 0, none⟩ = some (.slice p l c) := by
        rw [ba.cell (by show w.heap.size < _; omega), hb5.cell (by show w.heap.size < _; omega)]; exact ew2
      have hlen6 : D.length + ([((R : Int), ⟨#[]⟩, z0, p5, A.length, c5)] : List CV).length ≤ 33554432 := by simpa using hlen
      have hsz6 : w.heap.size + 1 ≤ (w5.alloc (.cells (ceC ((R : Int), ⟨#[]⟩, z0, p5, A.length, c5)) 47)).heap.size := by simp; omega
      clear own5 HO2 hit2 HT cA hb5 ba
      go_wp2_with (at_builtin; refine wpList_append_cells rfl (.tmp 15) (.tmp 21) rfl (w.heap.size + 1) u3 D rfl HO6.out _ _ rfl HR6.out hlen6 hsz6 ?_; intro v' w7 own7 gr7)
      have hK7 : w7.heap[K]? = some (.stringIter t P2) := by
        rw [gr7.block K (by simp; omega) (fun e => hnK.out K e.symm rfl)]; exact hK6
      have HE7 := HE6.out.keep (keepA_grown HO6.out gr7)
      have ew7 : w7.cell? ⟨w.heap.size, 0, none⟩ = some (.slice p l c) := by
        rw [World.cell?_of_block (a := ⟨w.heap.size, 0, none⟩) (gr7.block w.heap.size (by simp; omega) (fun e => by have := hge.out _ e.symm; omega))]; exact ew6
      have b7 : Below w.heap.size w w7 := b6.grown gr7 b6.size (fun k hk => by have := hge.out k hk; omega)
      go_roundw
      case rel => exact ⟨i + 1, _, by omega, by simp [hDl], own7, HE7, by rw [HQ.out]; exact hK7, b7, ew7⟩
      case measure =>
        have : w7.iterPos K = P2 := by simp [World.iterPos, hK7]
        rw [this]
        omega
    · have he : i = n := by omega
      have hpe : ¬ pos rs i < t.size := by
        rw [he, ← HN.out, pos_all, ← HV.out, size_toList]; omega
      have hnx : ∀ ty, (Instr.next (.pointer (some ⟨K, 0, none⟩)) true ty).run Tryd.prog wr = _ := fun ty => run_next_end_at wr K t _ ty hit hpe
      have hall : rs.take i = rs := List.take_of_length_le (by rw [HN.out]; omega)
      rw [hall] at hare
      have HO : Hid (OwnC wr w.heap.size u3 D ∧ AreO wr w.heap.size D (mkC A rs)) := ⟨own_weaken hown (Nat.le_succ _), All2.imp (fun d e h => ⟨h.1, h.2.1, h.2.2.1, own_weaken h.2.2.2 (Nat.le_succ _)⟩) hare⟩
      clear hown hpe hit h1 hare
      go_wp2
      go_ret
      exact ⟨_, D, rfl, HO.out.1, HO.out.2, hbw⟩
end Go.Proofs.YtecmdlecfddeeaaDoor
