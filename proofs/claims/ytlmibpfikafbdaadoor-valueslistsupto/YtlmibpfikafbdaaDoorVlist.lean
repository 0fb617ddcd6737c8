/- What values.List answers. -/
import Derived.Test.YtlmibpfikafbdaaDoorOwn
namespace Go.Proofs.YtlmibpfikafbdaaDoor
open Go Go.RowKit Go.Lib
set_option linter.unusedVariables false

set_option maxHeartbeats 1000000 in
theorem list_gen {I : List Nat} {a : Nat → Addr} (v : Value) (ps : List P3) (m : Nat) (w : World) (hI : ∀ i ∈ [0, 4, 9], i ∈ I) (hS : Std I a w) (hv : RowP w v ps)
    (hs : ∀ q ∈ ps, q.2.2.size ≤ 281474976710656) (hl : ps.length * 32 ≤ 140737488351232) (hm : m ≤ ps.length) (hg : ∀ (j : Nat) q, j < m → ps[j]? = some q → chkP q = 0) (e : Nat) (he : ∀ q, ps[m]? = some q → chkP q = e + 1) :
    Calls Tryd.prog 22 #[v] w fun r w' => Below w.heap.size w w' ∧ (m = ps.length → ∃ v', r = .returned (.tuple #[v', .int .i64 0, .nilIface]) ∧ w'.ownsRow w.heap.size 27 1 v' ps.length (ps.map valP)) ∧
      (m < ps.length → r = .returned (.tuple #[.slice none 0 0, .int .i64 m, errV a e])) := by
  obtain ⟨n, hn⟩ : ∃ n, ps.length = n := ⟨_, rfl⟩
  obtain ⟨p, cap, rfl, hc⟩ := hv.ex
  rw [hn] at hl hm ⊢
  have HN : Hid (ps.length = n) := hn
  have HC : Hid _ := hc
  have HG : Hid _ := hg
  have HE : Hid _ := he
  have HS : Hid _ := hS
  have HZ : Hid _ := hs
  have HII : Hid _ := hI
  obtain ⟨i0, z0, hi, hz, hz1, hz2, hz3⟩ := infoVal
  have hZ : Hid (i0.zero = some z0 ∧ i0.size = 1 ∧ i0.bytes = 16 ∧ z0.cells.size = 1) := ⟨hz, hz1, hz2, hz3⟩
  clear hc hg he hS hs hI hv hn hz hz1 hz2 hz3
  go_enter Tryd.func22, Tryd.ntmps22
  go_wp2_with (at_make; refine wpList_make_own _ rfl _ _ 46 rfl w.heap.size 27 i0 z0 1 Tryd.underlying46 hi hZ.out.1 hZ.out.2.1 .i64 .i64 _ n rfl rfl rfl (by rw [hZ.out.2.2.1]; omega) (by unfold maxLen; omega) (Nat.le_refl _) ?_; intro w2 hown hgr)
  have hb2 : Below w.heap.size w w2 := (Below.refl _ _).grown hgr (Nat.le_refl _) (fun k hk => by cases hk)
  obtain ⟨v0, hv0⟩ : ∃ v0 : Value, v0 = Value.slice (some ⟨w.heap.size, 0, none⟩) 0 n := ⟨_, rfl⟩
  rw [← hv0] at hown ⊢
  clear hv0 hgr
  go_loopw [5, 15] (fun v i wr => ∃ k : Nat, k ≤ m ∧ i = .int .i64 k ∧ wr.ownsRow w.heap.size 27 1 v k ((ps.take k).map valP) ∧ Below w.heap.size w wr) (fun _ i _ => n - (RowKit.intOf i).toNat)
  case atStart => exact ⟨0, Nat.zero_le _, rfl, hown, hb2⟩
  case round =>
    clear hown hb2
    obtain ⟨k, hk, rfl, hown, hbw⟩ := hrel
    by_cases hlt : k < n
    · have hltI : (k : Int) < n := by omega
      obtain ⟨q, hq⟩ : ∃ q, ps[k]? = some q := ⟨_, List.getElem?_eq_getElem (by rw [HN.out]; exact hlt)⟩
      obtain ⟨b, off, rfl, c0, c1, c2⟩ := HC.out k q hq
      have d0 : wr.cell? ⟨b, off + k * 3, none⟩ = _ := (hbw.cell (lt_of_cell c0)).trans c0
      have d1 : wr.cell? ⟨b, off + k * 3 + 1, none⟩ = _ := (hbw.cell (lt_of_cell c1)).trans c1
      have d2 : wr.cell? ⟨b, off + k * 3 + 2, none⟩ = _ := (hbw.cell (lt_of_cell c2)).trans c2
      clear c0 c1 c2
      obtain ⟨x, y, z⟩ := q
      have hzs := HZ.out _ (List.mem_of_getElem? hq)
      have hbw1 : Below w.heap.size w (wr.alloc (.cells #[.int .i64 x, .int .i64 y, .string z] 23)) := hbw.alloc hbw.size _
      have hown1 : (wr.alloc (.cells #[.int .i64 x, .int .i64 y, .string z] 23)).ownsRow w.heap.size 27 1 u5 k ((ps.take k).map valP) := owns_below hown ((Below.refl _ _).alloc (Nat.le_refl _) _)
      by_cases hkm : k < m
      · have hchk : chk x y z = 0 := HG.out k _ hkm hq
        have cO := of_ok x y z _ HII.out (HS.out.below hbw1) hzs hchk
        have HT : Hid ((ps.take (k + 1)).map valP = (ps.take k).map valP ++ [valOf x y z]) := by
          show _ = _
          have hkl : k < ps.length := by rw [HN.out]; exact hlt
          rw [List.take_succ_eq_append_getElem hkl, List.map_append]
          have : ps[k] = (x, y, z) := by
            have := hq; rw [List.getElem?_eq_getElem hkl] at this; exact Option.some.inj this
          rw [this]; rfl
        obtain ⟨tu, tx, hV⟩ : ∃ tu tx, valOf x y z = .iface tu tx := by
          unfold valOf
          repeat' split
          all_goals exact ⟨_, _, rfl⟩
        rw [hV] at cO HT
        have HO : Hid _ := hown1
        clear hown hown1 hchk hV hzs hq
        go_wp2_with fail
        refine cO.mono ?_; rintro r w3 ⟨rfl, hb3⟩
        have hown3 := owns_below HO.out hb3
        have hbw3 : Below w.heap.size w w3 := hbw1.trans (hb3.mono hbw1.size)
        have hown4 : (w3.alloc (.cells #[.iface tu tx] 27)).ownsRow w.heap.size 27 1 u5 k ((ps.take k).map valP) := owns_below hown3 ((Below.refl _ _).alloc (Nat.le_refl _) _)
        have hge : ∀ j, u5.ownBlock = some j → w.heap.size ≤ j := fun j hj => (owns_block hown3 j hj).1
        clear cO hb3 d0 d1 d2 hown3
        go_wp2_with (at_builtin; refine wpList_append_own _ rfl (.tmp 29) (.tmp 31) 46 rfl w.heap.size 27 i0 z0 1 16 Tryd.underlying46 hi hZ.out.1 hZ.out.2.1 hZ.out.2.2.1 hZ.out.2.2.2 (by decide) _ k _ rfl hown4 ⟨w3.heap.size, 0, none⟩ 1 1 [.iface tu tx] rfl rfl (by intro j u hj; cases j with | zero => (simp at hj; subst hj; simp [Addr.add]) | succ j => simp at hj) (fun u hu => by rw [List.mem_singleton.1 hu]; rfl) (by unfold maxLen; omega) (by omega) (by simp; have := hbw3.size; omega) ?_; intro v5 w5 own5 gr5 _)
        have hb5 : Below w.heap.size w w5 := (hbw3.alloc hbw3.size _).grown gr5 (by have := hbw3.size; simp; omega) (fun j hj => hge j hj)
        go_roundw
        case rel => exact ⟨k + 1, by omega, by go_num, by rw [HT.out]; exact own5, hb5⟩
        case measure => simp [RowKit.intOf]; omega
      · obtain rfl : k = m := by omega
        have cO := from_below hbw1 (of_no x y z _ HII.out (HS.out.below hbw1) hzs e (HE.out _ hq))
        have hne : Hid (¬ k = n) := by show ¬ _; omega
        clear hown hown1 hzs hq
        go_wp2_with fail
        refine cO.mono ?_; rintro r w3 ⟨rfl, hb3⟩
        go_wp2
        go_ret3
        exact ⟨hb3, fun h => absurd h hne.out, fun _ => rfl⟩
    · have hkn : k = n := by omega
      have hltI : ¬ (k : Int) < n := by omega
      have hmn : m = n := by omega
      have HO : Hid (wr.ownsRow w.heap.size 27 1 u5 n (ps.map valP)) := by
        show World.ownsRow _ _ _ _ _ _ _
        rw [hkn, List.take_of_length_le (by rw [HN.out]; omega)] at hown
        exact hown
      have HM : Hid (¬ m < n) := by show ¬ _; omega
      clear hown hmn hkn hm hk
      go_wp2
      go_ret3
      exact ⟨hbw, fun _ => ⟨_, rfl, HO.out⟩, fun h => absurd h HM.out⟩
end Go.Proofs.YtlmibpfikafbdaaDoor
