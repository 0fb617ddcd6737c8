/- What scalars.List answers: a new slice, the call's own, of the scalars. -/
import Derived.Test.YtdnelmbihblakaaDoorTxt
import Derived.OwnWalk
import Derived.Laws.AppendOwn
import Derived.Lib.OthersKept
namespace Go.Proofs.YtdnelmbihblakaaDoor
open Go Go.RowKit Go.Lib
set_option linter.unusedVariables false

def cells32 (zs : List Int) : List Value := zs.map fun z => .int .i32 z

/-- A slice of numbers that lies in memory made since B. -/
abbrev Own32 (B : Nat) (w : World) (v : Value) (zs : List Int) : Prop := w.ownsRow B 21 1 v zs.length (cells32 zs)

theorem owns_iterAt {w : World} {B : Nat} {e : TypeId} {size : Nat} {v : Value} {n : Nat} {xs : List Value} (h : w.ownsRow B e size v n xs) {K : Nat} {s : ByteArray} {p0 : Nat} (hk : w.heap[K]? = some (.stringIter s p0)) (p : Nat) : (w.iterAt K s p).ownsRow B e size v n xs := by
  obtain ⟨hl, h⟩ := h
  refine ⟨hl, ?_⟩
  rcases h with h | ⟨g, cap, cur, h1, h2, h3, h4⟩
  · exact Or.inl h
  · refine Or.inr ⟨g, cap, cur, h1, h2, ?_, h4⟩
    rw [iterAt_other _ _ _ _ _ (fun e => by rw [e, hk] at h3; cases h3)]
    exact h3
theorem owns_block {w : World} {B : Nat} {e : TypeId} {size : Nat} {v : Value} {n : Nat} {xs : List Value} (h : w.ownsRow B e size v n xs) (k : Nat) (hk : v.ownBlock = some k) : B ≤ k ∧ ∃ cur, w.heap[k]? = some (.cells cur e (0, 0)) := by
  rcases h.2 with ⟨rfl, _⟩ | ⟨g, cap, cur, rfl, h2, h3, _⟩
  · cases hk
  · simp only [Value.ownBlock, Option.some.injEq] at hk
    subst hk
    exact ⟨h2, cur, h3⟩
theorem owns_same {w w' : World} {B : Nat} {e : TypeId} {size : Nat} {v : Value} {n : Nat} {xs : List Value} (h : w.ownsRow B e size v n xs) (hb : ∀ k, v.ownBlock = some k → w'.heap[k]? = w.heap[k]?) : w'.ownsRow B e size v n xs := by
  obtain ⟨hl, h⟩ := h
  refine ⟨hl, ?_⟩
  rcases h with h | ⟨g, cap, cur, h1, h2, h3, h4⟩
  · exact Or.inl h
  · refine Or.inr ⟨g, cap, cur, h1, h2, ?_, h4⟩
    rw [hb g (by rw [h1]; rfl)]; exact h3
theorem owns_below {w w' : World} {B : Nat} {e : TypeId} {size : Nat} {v : Value} {n : Nat} {xs : List Value} (h : w.ownsRow B e size v n xs) (hb : Below w.heap.size w w') : w'.ownsRow B e size v n xs :=
  owns_same h fun k hk => by
    obtain ⟨_, cur, hc⟩ := owns_block h k hk
    exact hb.block k (Array.getElem?_eq_some_iff.1 hc).1
theorem owns_row32 {w : World} {B : Nat} {v : Value} {zs : List Int} (h : Own32 B w v zs) : Row32 w v zs := by
  rcases h.2 with ⟨rfl, h0⟩ | ⟨g, cap, cur, rfl, h2, h3, h4, h5, h6, h7⟩
  · have : zs = [] := List.eq_nil_of_length_eq_zero h0
    subst this
    exact ⟨none, 0, rfl, fun j hj => by simp at hj⟩
  · refine ⟨some ⟨g, 0, none⟩, cap, rfl, fun j hj => ⟨g, 0, rfl, ?_⟩⟩
    have e1 : cur.toList[j]? = some (.int .i32 (zs.getD j 0)) := by
      have := congrArg (·[j]?) h7
      simp only [Nat.mul_one, List.getElem?_take, hj, if_true] at this
      rw [this]
      simp [cells32, List.getD, List.getElem?_eq_getElem hj]
    simp only [World.cell?, h3, Nat.zero_add]
    simpa using e1

theorem info32 : ∃ i z, Tryd.prog.info? 21 = some i ∧ i.zero = some z ∧ i.size = 1 ∧ i.bytes = 4 ∧ z.cells.size = 1 := by
  obtain ⟨i, hi, h⟩ := Option.map_eq_some_iff.1 (show (Tryd.prog.info? 21).map (fun i => (i.zero, i.size, i.bytes)) = some (some (.int .i32 0), 1, 4) by kernel_rfl)
  simp only [Prod.mk.injEq] at h
  exact ⟨i, _, hi, h.1, h.2.1, h.2.2, rfl⟩

set_option maxHeartbeats 1000000 in
theorem list_ok {a : Nat → Addr} (s : ByteArray) (w : World) (hS : Std a w) (hs : s.size ≤ 35184372087808) (h : brk s.data.toList = s.size) :
    Calls Tryd.prog 14 #[.string s] w fun e w' => ∃ v, e = .returned (.tuple #[v, .nilIface]) ∧ Own32 w.heap.size w' v (ints (scs s.data.toList)) ∧ Below w.heap.size w w' := by
  have c := len_ok s w hS (by omega) h
  obtain ⟨h1, h2, h3⟩ := valid_text s h
  obtain ⟨rs, hrs⟩ : ∃ rs, scs s.data.toList = rs := ⟨_, rfl⟩
  rw [hrs] at c h1 h2 h3 ⊢
  obtain ⟨n, hn⟩ : ∃ n, rs.length = n := ⟨_, rfl⟩
  rw [hn] at c h3
  obtain ⟨i0, z0, hi, hz, hz1, hz2, hz3⟩ := info32
  have hZ : Hid (i0.zero = some z0 ∧ i0.size = 1 ∧ i0.bytes = 4 ∧ z0.cells.size = 1) := ⟨hz, hz1, hz2, hz3⟩
  have HV : Hid (s.data.toList = encs rs) := h2
  have HN : Hid (rs.length = n) := hn
  clear hS h hrs hz hz1 hz2 hz3 h2 hn
  go_enter Tryd.func14, Tryd.ntmps14
  go_wp2_with (first
    | (go_at_call 15; refine c.mono ?_; rintro e w1 ⟨rfl, hb⟩)
    | (at_make; refine wpList_make_own _ rfl _ _ 30 rfl w.heap.size 21 i0 z0 1 Tryd.underlying30 hi hZ.out.1 hZ.out.2.1 .i64 .i64 _ n rfl rfl rfl (by rw [hZ.out.2.2.1]; omega) (by unfold maxLen; omega) hb.size ?_; intro w2 hown hgr))
  have hb2 : Below w.heap.size w w2 := hb.grown hgr hb.size (fun k hk => by cases hk)
  have hK : w.heap.size ≤ w2.heap.size := hb2.size
  obtain ⟨v0, hv0⟩ : ∃ v0 : Value, v0 = Value.slice (some ⟨w1.heap.size, 0, none⟩) 0 n := ⟨_, rfl⟩
  rw [← hv0] at hown ⊢
  have hst : (w2.iter s 0).ownsRow w.heap.size 21 1 v0 0 [] := owns_below hown ((Below.refl _ _).alloc (Nat.le_refl _) _)
  have hit0 : (w2.iter s 0).heap[w2.heap.size]? = some (.stringIter s 0) := World.iter_heap w2 s 0
  have hbi : Below w.heap.size w (w2.iter s 0) := hb2.alloc hK _
  obtain ⟨K, hKK⟩ : ∃ K, K = w2.heap.size := ⟨_, rfl⟩
  rw [← hKK] at hit0 hK ⊢
  obtain ⟨wi, hwi⟩ : ∃ wi, wi = w2.iter s 0 := ⟨_, rfl⟩
  rw [← hwi] at hst hit0 hbi ⊢
  clear hown hgr hb2 c hb hv0 hKK hwi
  go_loopw [6] (fun v wr => ∃ i : Nat, i ≤ n ∧ wr.ownsRow w.heap.size 21 1 v i (cells32 (ints (rs.take i))) ∧ wr.heap[K]? = some (.stringIter s (pos rs i)) ∧ Below w.heap.size w wr) (fun _ wr => s.size - wr.iterPos K)
  case atStart => exact ⟨0, Nat.zero_le _, hst, hit0, hbi⟩
  case round =>
    clear hst hit0 hbi
    obtain ⟨i, hin, hown, hit, hbw⟩ := hrel
    by_cases hlt : i < n
    · obtain ⟨hd, hp⟩ := decode_pos s rs HV.out h1 i (by rw [HN.out]; exact hlt)
      have hps := pos_succ rs i (by rw [HN.out]; exact hlt)
      have hpl := enc_pos (h1 _ (List.getElem_mem (show i < rs.length by rw [HN.out]; exact hlt)))
      have HT : Hid (cells32 (ints (rs.take (i + 1))) = cells32 (ints (rs.take i)) ++ [.int .i32 ((rs[i]'(by rw [HN.out]; exact hlt) : Nat) : Int)]) := by
        show _ = _
        rw [List.take_succ_eq_append_getElem (by rw [HN.out]; exact hlt)]
        simp only [cells32, ints, List.map_append, List.map_cons, List.map_nil]
      obtain ⟨R, hR⟩ : ∃ R, rs[i]'(by rw [HN.out]; exact hlt) = R := ⟨_, rfl⟩
      rw [hR] at hd hps hpl HT
      have hpq : pos rs i < pos rs (i + 1) := by omega
      have hnx : ∀ ty, (Instr.next (.pointer (some ⟨K, 0, none⟩)) true ty).run Tryd.prog wr = .ok (.tuple #[.bool true, .int .i64 (pos rs i), .int .i32 R]) (wr.iterAt K s (pos rs (i + 1))) := fun ty => by
        have := run_next_any_at (P := Tryd.prog) wr K s (pos rs i) ty hit hp
        rw [hd] at this
        rw [this, hps]
      obtain ⟨P, hP⟩ : ∃ P, pos rs i = P := ⟨_, rfl⟩
      obtain ⟨P2, hP2⟩ : ∃ P, pos rs (i + 1) = P := ⟨_, rfl⟩
      have HQ : Hid (pos rs (i + 1) = P2) := hP2
      rw [hP] at hnx hp hpq hit
      rw [hP2] at hnx hpq
      have hown2 := owns_iterAt hown hit P2
      have hit2 := iterAt_heap wr K s P P2 hit
      have hbw2 := below_iterAt hbw hK s P2
      have hsz2 : K < (wr.iterAt K s P2).heap.size := (Array.getElem?_eq_some_iff.1 hit2).1
      obtain ⟨W, hW⟩ : ∃ W, W = wr.iterAt K s P2 := ⟨_, rfl⟩
      rw [← hW] at hown2 hit2 hbw2 hsz2 hnx
      have hown3 : (W.alloc (.cells #[.int .i32 R] 21)).ownsRow w.heap.size 21 1 _ i _ := owns_below hown2 ((Below.refl _ _).alloc (Nat.le_refl _) _)
      have hnK : ∀ k, u6.ownBlock = some k → k ≠ K := fun k hk e => by
        obtain ⟨_, cur, hcur⟩ := owns_block hown2 k hk
        rw [e, hit2] at hcur
        cases hcur
      have hge : ∀ k, u6.ownBlock = some k → w.heap.size ≤ k := fun k hk => (owns_block hown2 k hk).1
      have hpos : wr.iterPos K = P := by simp [World.iterPos, hit]
      clear hown hd hps hpl hR hP hP2 hit hbw hW h1
      go_wp2_with (first
        | (at_builtin; refine wpList_append_own _ rfl _ _ 30 rfl w.heap.size 21 i0 z0 1 4 Tryd.underlying30 hi hZ.out.1 hZ.out.2.1 hZ.out.2.2.1 hZ.out.2.2.2 (by decide) _ i _ rfl hown3 ⟨W.heap.size, 0, none⟩ 1 1 [.int .i32 R] rfl rfl (by intro j u hj; cases j with | zero => (simp at hj; subst hj; simp [Addr.add]) | succ j => simp at hj) (fun u hu => by rw [List.mem_singleton.1 hu]; rfl) (by unfold maxLen; omega) (by omega) (by simp; have := hbw2.size; omega) ?_; intro v' w3 hown4 hgr4 _))
      have hK3 : w3.heap[K]? = some (.stringIter s P2) := by
        rw [hgr4.block K (by simp; omega) (fun e => hnK K e.symm rfl), Below.heap_alloc _ _ _ hsz2]
        exact hit2
      have hb3 : Below w.heap.size w w3 := (hbw2.alloc hbw2.size _).grown hgr4 (by have := hbw2.size; simp; omega) (fun k hk => hge k hk)
      go_roundw
      case rel => exact ⟨i + 1, by omega, by rw [HT.out]; exact hown4, by rw [HQ.out]; exact hK3, hb3⟩
      case measure =>
        have : w3.iterPos K = P2 := by simp [World.iterPos, hK3]
        rw [this]
        omega
    · have he : i = n := by omega
      have hpe : ¬ pos rs i < s.size := by
        rw [he, ← HN.out, pos_all, ← HV.out, size_toList]; omega
      have hnx : ∀ ty, (Instr.next (.pointer (some ⟨K, 0, none⟩)) true ty).run Tryd.prog wr = _ := fun ty => run_next_end_at wr K s _ ty hit hpe
      have hall : rs.take i = rs := List.take_of_length_le (by rw [HN.out]; omega)
      have HO : Hid (Own32 w.heap.size wr u6 (ints rs)) := by
        show wr.ownsRow w.heap.size _ 1 u6 (ints rs).length _
        rw [ints_length, HN.out, ← he]
        rw [hall] at hown
        exact hown
      clear hown hpe hit h1
      go_wp2
      go_ret2
      exact ⟨_, rfl, HO.out, hbw⟩
end Go.Proofs.YtdnelmbihblakaaDoor
