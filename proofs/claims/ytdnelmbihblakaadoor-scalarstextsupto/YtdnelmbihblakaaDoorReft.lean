/- What the reference's Text answers: the encodings, one behind the other. -/
import Derived.Test.YtdnelmbihblakaaDoorRef
import Derived.Test.YtdnelmbihblakaaDoorLst
import Derived.Test.YtdnelmbihblakaaDoorVt
import Derived.Lib.AppendStr
import Derived.Laws.IdiomStrings
namespace Go.Proofs.YtdnelmbihblakaaDoor
open Go Go.RowKit Go.Lib
set_option linter.unusedVariables false

theorem info8 : ∃ i, Tryd.prog.info? 5 = some i ∧ i.zero = some (.int .u8 0) ∧ i.size = 1 ∧ i.bytes = 1 := by
  obtain ⟨i, hi, h⟩ := Option.map_eq_some_iff.1 (show (Tryd.prog.info? 5).map (fun i => (i.zero, i.size, i.bytes)) = some (some (.int .u8 0), 1, 1) by kernel_rfl)
  simp only [Prod.mk.injEq] at h
  exact ⟨i, hi, h.1, h.2.1, h.2.2⟩

theorem strCells_byte (s : ByteArray) : strCells s = byteCells s.data.toList := by
  first | rfl | (unfold strCells byteCells; simp)

theorem owns_bytes {w : World} {B : Nat} {v : Value} {l : List UInt8} (h : w.ownsRow B 5 1 v l.length (byteCells l)) :
    (convert 65 9 v).run Tryd.prog w = .ok (.string ⟨l.toArray⟩) w := by
  rcases h.2 with ⟨rfl, h0⟩ | ⟨g, cap, cur, rfl, h2, h3, h4, h5, h6, h7⟩
  · have : l = [] := List.eq_nil_of_length_eq_zero h0
    subst this
    exact run_convert_bytes_nil w 65 5 Tryd.underlying65 Tryd.underlying5 0 0 9 Tryd.underlying9
  · refine run_convert_bytes_back w 65 9 5 ⟨g, 0, none⟩ cap l Tryd.underlying65 Tryd.underlying5 Tryd.underlying9 fun j hj => ?_
    have := congrArg (·[j]?) h7
    simp only [Nat.mul_one, List.getElem?_take, hj, if_true] at this
    have e : (byteCells l)[j]? = some (.int .u8 ((l[j]).toNat : Int)) := by simp [byteCells, List.getElem?_eq_getElem hj]
    rw [e] at this
    have ea : (⟨g, 0, none⟩ : Addr).add j = ⟨g, j, none⟩ := by cases j <;> simp [Addr.add]
    rw [ea]
    simp only [World.cell?, h3]
    simpa using this

set_option maxHeartbeats 1000000 in
theorem ref_text (v : Value) (rs : List Nat) (w : World) (hv : Row32 w v (ints rs)) (h : scals rs) (hl : rs.length ≤ 35184372087808) :
    Calls Tryd.prog 20 #[v] w fun e w' => e = .returned (.string (txt rs)) ∧ Below w.heap.size w w' := by
  obtain ⟨p, cap, rfl, hc⟩ := hv.ex
  obtain ⟨n, hn⟩ : ∃ n, rs.length = n := ⟨_, rfl⟩
  simp only [ints_length] at hc ⊢
  have hcell : ∀ k, (hk : k < n) → ∃ b off, p = some ⟨b, off, none⟩ ∧ w.cell? ⟨b, off + k, none⟩ = some (.int .i32 ((rs[k]'(by omega) : Nat) : Int)) := fun k hk => by
    obtain ⟨b, off, hp, h⟩ := hc k (by omega)
    refine ⟨b, off, hp, ?_⟩
    rw [h, ints_get]
  have hle : ∀ k, pos rs k ≤ 140737488351232 := fun k => by
    have h1 := pos_le rs k
    have h2 := encs_le rs h
    omega
  have hnl : n ≤ 35184372087808 := by omega
  rw [hn]
  obtain ⟨i0, hi, hz, hz1, hz2⟩ := info8
  have hZ : Hid (i0.zero = some (.int .u8 0) ∧ i0.size = 1 ∧ i0.bytes = 1) := ⟨hz, hz1, hz2⟩
  clear hc hv hl hz hz1 hz2
  go_enter Tryd.func20, Tryd.ntmps20
  go_wp2
  have hst : (w.alloc (.cells #[] 5)).ownsRow w.heap.size 5 1 (.slice (some ⟨w.heap.size, 0, none⟩) 0 0) 0 [] := World.ownsRow_made w #[] 0 (Nat.le_refl _) (Nat.zero_le _) rfl
  have hbi : Below w.heap.size w (w.alloc (.cells #[] 5)) := (Below.refl _ _).alloc (Nat.le_refl _) _
  obtain ⟨v0, hv0⟩ : ∃ v0 : Value, v0 = Value.slice (some ⟨w.heap.size, 0, none⟩) 0 0 := ⟨_, rfl⟩
  rw [← hv0] at hst ⊢
  obtain ⟨wi, hwi⟩ : ∃ wi, wi = w.alloc (.cells #[] 5) := ⟨_, rfl⟩
  rw [← hwi] at hst hbi ⊢
  clear hv0 hwi
  go_loopw [3, 9] (fun v i wr => ∃ k : Nat, k ≤ n ∧ i = .int .i64 k ∧ wr.ownsRow w.heap.size 5 1 v (pos rs k) (byteCells (encs (rs.take k))) ∧ Below w.heap.size w wr) (fun _ i _ => n - (RowKit.intOf i).toNat)
  case atStart => exact ⟨0, Nat.zero_le _, rfl, hst, hbi⟩
  case round =>
    clear hst hbi
    obtain ⟨k, hk, rfl, hown, hbw⟩ := hrel
    by_cases hlt : k < n
    · obtain ⟨b, off, rfl, hcl⟩ := hcell k hlt
      have hr := h _ (List.getElem_mem (show k < rs.length by omega))
      have hp1 := pos_succ rs k (by omega)
      have hpl := hle (k + 1)
      have hT : Hid (encs (rs.take (k + 1)) = encs (rs.take k) ++ enc (rs[k]'(by omega))) := by
        show _ = _
        rw [List.take_succ_eq_append_getElem (by omega), encs_snoc]
      obtain ⟨R, hR⟩ : ∃ R, rs[k]'(by omega) = R := ⟨_, rfl⟩
      rw [hR] at hcl hr hp1 hT
      have hcl' : wr.cell? ⟨b, off + k, none⟩ = _ := (hbw.cell (lt_of_cell hcl)).trans hcl
      have henc := fun W => ref_encode R hr W
      have hes : (⟨(enc R).toArray⟩ : ByteArray).size = (enc R).length := by show (enc R).toArray.size = _; simp
      have hel : Hid ((⟨(enc R).toArray⟩ : ByteArray).data.toList = enc R) := by show _ = _; simp
      obtain ⟨E, hE⟩ : ∃ E : ByteArray, ⟨(enc R).toArray⟩ = E := ⟨_, rfl⟩
      rw [hE] at henc hes hel
      obtain ⟨P, hP⟩ : ∃ P, pos rs k = P := ⟨_, rfl⟩
      obtain ⟨P2, hP2⟩ : ∃ P, pos rs (k + 1) = P := ⟨_, rfl⟩
      rw [hP, hP2, ← hes] at hp1
      rw [hP2] at hpl
      rw [hP] at hown
      have HP : Hid (pos rs (k + 1) = P2) := hP2
      have HP1 : Hid (P2 = P + E.size) := hp1
      have hpE : P + E.size ≤ 140737488351232 := by omega
      clear hcell hcl hle hP hP2 hp1 hpl hr hR h hn hE hes
      go_wp2_with (first
        | (go_at_call 35; refine (henc _).mono ?_; rintro e w2 ⟨rfl, hb2⟩; have hown2 := owns_below hown hb2; have hbw2 := hbw.trans (hb2.mono hbw.size))
        | (at_builtin; refine wpList_append_own_string _ rfl _ _ 65 9 rfl w.heap.size 5 i0 Tryd.underlying65 Tryd.underlying9 hi hZ.out.1 hZ.out.2.1 hZ.out.2.2 _ P _ rfl hown2 E rfl (by unfold maxLen; omega) (by omega) hbw2.size ?_; intro v' w3 hown4 hgr4 _))
      have hb3 : Below w.heap.size w w3 := hbw2.grown hgr4 hbw2.size (fun k hk => (owns_block hown2 k hk).1)
      go_roundw
      case rel =>
        refine ⟨k + 1, by omega, by go_num, ?_, hb3⟩
        rw [HP.out, HP1.out, hT.out, byteCells_append, ← hel.out, ← strCells_byte]
        exact hown4
      case measure => simp [RowKit.intOf]; omega
    · obtain rfl : k = n := by omega
      have hall : rs.take k = rs := List.take_of_length_le (by omega)
      have hpa : pos rs k = (encs rs).length := by rw [← hn, pos_all]
      rw [hall, hpa] at hown
      have hcv := owns_bytes hown
      have HT : Hid ((⟨(encs rs).toArray⟩ : ByteArray) = txt rs) := rfl
      obtain ⟨T, hTT⟩ : ∃ T : ByteArray, ⟨(encs rs).toArray⟩ = T := ⟨_, rfl⟩
      rw [hTT] at hcv HT
      clear hcell hle h hall hpa hn hTT hown
      go_wp2
      go_ret
      rw [← HT.out]
      exact ⟨rfl, hbw⟩
end Go.Proofs.YtdnelmbihblakaaDoor
