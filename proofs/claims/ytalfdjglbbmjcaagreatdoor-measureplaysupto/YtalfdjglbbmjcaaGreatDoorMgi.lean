/- measure: take: the next cells of a Walker, as pieces. A delta of a list made canonical. measure: Slice. The document's Slice of layer 8, purely: the pieces of inserts from a place on up to another one. What vellumref01.Text answers: the encodings, one behind the other. An operation in memory behind stores. What vellumref04.Cut answers. The document's Slice of layer 8. -/
import Derived.Test.YtalfdjglbbmjcaaGreatDoorMgh
import Derived.Test.YtalfdjglbbmjcaaGreatDoorMgf
import Derived.Test.YtalfdjglbbmjcaaGreatDoorMgg
import Derived.Test.YtalfdjglbbmjcaaGreatDoorMge
import Derived.Lib.AppendStr
import Derived.Laws.IdiomStrings
import Derived.Test.YtalfdjglbbmjcaaGreatDoorSpo
import Derived.Test.YtalfdjglbbmjcaaGreatDoorMgd
import Derived.Deep.RegionHeld3
import Derived.Deep.DeepCutAuto
import Derived.Test.YtalfdjglbbmjcaaGreatDoorMga
import Derived.Test.YtalfdjglbbmjcaaGreatDoorOw

/- measure: take: the next cells of a Walker, as pieces. -/
namespace Go.Proofs.YtalfdjglbbmjcaaGreatDoor
open Go Go.RowKit Go.Lib
set_option linter.unusedVariables false

theorem frw_own {q g M : Nat} {w w' : World} {v : Value} {P : List Value} (f : FrW q g w w') (h : OwnI w M v P) (hq : q < M) (hg : g < M) : OwnI w' M v P :=
  owns_same h fun b e => by
    obtain ⟨h1, cs, h2⟩ := owns_block h b e
    rw [f.kept b _ h2 (.inr ⟨by omega, by omega⟩), h2]
theorem WkV.same8 {w w' : World} {B q g : Nat} {R : List Op5} (h : WkV w B q g R) (hq : ∀ o, w.heap[q]? = some o → w'.heap[q]? = some o) (hg : R ≠ [] → ∀ o, w.heap[g]? = some o → w'.heap[g]? = some o) (hk : KeepA w w') : WkV w' B q g R := by
  obtain ⟨h1, h2, h3, p, cap, h4, h5, h6⟩ := h
  refine ⟨h1, h2, h3, p, cap, hq _ h4, h5, fun h0 => ?_⟩
  obtain ⟨off, cs, e, hgo, hr⟩ := h6 h0
  refine ⟨off, cs, e, hg h0 _ hgo, fun j x hx => ?_⟩
  obtain ⟨s, a1, a2⟩ := hr j x hx
  exact ⟨s, a1, keepA_own a2 hk⟩
theorem tk_step {R : List Op5} {N T K : Nat} (h : Rst R N T K) (h0 : R ≠ []) {n : Int} (h1 : 1 ≤ n) : (left7 R ≤ n → len5 (nx7 R n).1 = left7 R ∧ (nx7 R n).1.t.size + txtS (nx7 R n).2 ≤ txtS R ∧ (nx7 R n).2.length + 1 = R.length) ∧ (¬ left7 R ≤ n → len5 (nx7 R n).1 = n ∧ (nx7 R n).1.t.size + txtS (nx7 R n).2 ≤ txtS R + T ∧ (nx7 R n).2.length = R.length) := by
  cases R with
  | nil => exact absurd rfl h0
  | cons x r =>
    have hx := h.good x (List.mem_cons_self ..)
    refine ⟨fun hl => ?_, fun hl => ?_⟩
    · have e : nx7 (x :: r) n = (x, r) := nx_all hl
      rw [e]
      exact ⟨rfl, by rw [txtS_cons]; exact Nat.le_refl _, by simp⟩
    · have hl' : ¬ len5 x ≤ n := hl
      have e : nx7 (x :: r) n = (hd7 x n, tl7 x n :: r) := nx_part hl'
      have c := cut7 hx h1 (by omega)
      have := c.hz
      have := c.tz
      have := h.txt
      rw [e]
      refine ⟨c.hl, ?_, by simp⟩
      show (hd7 x n).t.size + txtS (tl7 x n :: r) ≤ _
      rw [txtS_cons] at *
      rw [txtS_cons]
      omega
theorem units_nil_len {R : List Op5} {m : Int} (h : m ≤ ((units R).length : Int)) (h1 : 1 ≤ m) : R ≠ [] := fun e => by subst e; simp [units] at h; omega
/-- What take has behind it. -/
structure Tk8 (w wr : World) (B q g : Nat) (R : List Op5) (N T K : Nat) (n m : Int) (P R' : List Op5) : Prop where
  wk : WkV wr B q g R'
  rst : Rst R' N T K
  un : units R = units P ++ units R'
  len : m + ((units P).length : Int) = n
  few : m ≤ ((units R').length : Int)
  good : ∀ o ∈ P, opE o = 0 ∧ FitA o
  fr : FrW q g w wr
  ne : R' ≠ [] → R ≠ []
  cnt : (txtS P + txtS R' ≤ txtS R ∧ P.length + R'.length ≤ R.length) ∨ (m = 0 ∧ txtS P + txtS R' ≤ txtS R + T ∧ P.length + R'.length ≤ R.length + 1)
theorem Tk8.step {w wr w8 : World} {B q g : Nat} {R : List Op5} {N T K : Nat} {n m : Int} {P R' : List Op5} (h : Tk8 w wr B q g R N T K n m P R') (h1 : 1 ≤ m) (hk : WkV w8 B q g (nx7 R' m).2) (hf : FrW q g w w8) : Tk8 w w8 B q g R N T K n (m - len5 (nx7 R' m).1) (P ++ [(nx7 R' m).1]) (nx7 R' m).2 ∧ 1 ≤ len5 (nx7 R' m).1 ∧ len5 (nx7 R' m).1 ≤ m := by
  have h0 := units_nil_len h.few h1
  obtain ⟨p1, p2, p3, p4, p5, p6⟩ := h.rst.piece h1
  have hu := h.rst.units h1 h0
  have hl := len5_units (wel_of p1)
  have hp := len5_pos p1
  obtain ⟨s1, s2⟩ := tk_step h.rst h0 h1
  have hle : len5 (nx7 R' m).1 ≤ m := by omega
  refine ⟨⟨hk, h.rst.next h1, ?_, ?_, ?_, ?_, hf, fun _ => h.ne h0, ?_⟩, hp, hle⟩
  · rw [h.un, hu, units_append, units_one, List.append_assoc]
  · have := h.len
    rw [units_append, units_one, List.length_append]
    omega
  · have h3 := h.few
    rw [hu, List.length_append] at h3
    omega
  · intro o ho
    rcases List.mem_append.1 ho with ho | ho
    · exact h.good o ho
    · rw [List.mem_singleton.1 ho]; exact ⟨p1, p2⟩
  · have hc := h.cnt.resolve_right (by omega)
    rw [txtS_append, txtS_one, List.length_append]
    by_cases hl2 : left7 R' ≤ m
    · have := s1 hl2
      left
      simp only [List.length_singleton]
      omega
    · have := s2 hl2
      have ht := h.rst.txt
      right
      simp only [List.length_singleton]
      omega
set_option maxHeartbeats 4000000 in
set_option maxRecDepth 100000 in
theorem take8_any {B q g : Nat} {R : List Op5} {N T K : Nat} (n : Int) (w : World) (h : WkV w B q g R) (hgl : R ≠ [] → g < w.heap.size) (hR : Rst R N T K) (hT : T ≤ 4194304) (hK : K ≤ 2097152) (hN : N ≤ 4194304) (hn : 0 ≤ n ∧ n ≤ ((units R).length : Int) ∧ n ≤ 2199023255552) :
    Calls Tryz.prog 101 #[.pointer (some ⟨q, 0, none⟩), .int .i64 n] w fun r w' => ∃ v, r = .returned v ∧ ∃ P R', Tk8 w w' B q g R N T K n 0 P R' ∧ ∃ PL, OwnI w' w.heap.size v PL ∧ PieD w' B PL P := by
  have hq := h.lt
  have HB : Hid (q < w.heap.size ∧ (R ≠ [] → g < w.heap.size) ∧ B ≤ w.heap.size) := ⟨hq, hgl, by have := h.lq; omega⟩
  have HL : Hid (R.length ≤ N) := hR.len
  have H0 : Hid (Tk8 w w B q g R N T K n n [] R) := ⟨h, hR, rfl, by simp [units], hn.2.1, fun o ho => (by cases ho), FrW.refl _ _ _, id, .inl ⟨by simp [txtS], by simp⟩⟩
  have hn1 : 0 ≤ n := hn.1
  have hn2 : n ≤ 2199023255552 := hn.2.2
  clear h hgl hR hn hq
  go_enter Tryz.func101, Tryz.ntmps101
  go_wp2
  go_loopw [1, 5] (fun x1 x5 wr => ∃ (m : Int) (P R' : List Op5) (PL : List Value), x1 = .int .i64 m ∧ 0 ≤ m ∧ m ≤ 2199023255552 ∧ Hid (Tk8 w wr B q g R N T K n m P R') ∧ Hid (OwnI wr w.heap.size x5 PL ∧ PieD wr B PL P)) (fun x1 _ _ => (RowKit.intOf x1).toNat)
  case atStart => exact ⟨n, [], R, [], rfl, hn1, hn2, H0.out, World.ownsRow_nil _ _ _ _, .nil⟩
  case round =>
    clear H0 hn1 hn2
    obtain ⟨m, P, R', PL, rfl, hm0, hm2, HT, HO⟩ := hrel
    by_cases hlt : 0 < m
    · have h0 := units_nil_len HT.out.few hlt
      have cN := nextW_any m wr HT.out.wk HT.out.rst (by omega) hK (by omega) ⟨hlt, by omega⟩
      have hpc := (HT.out.rst.piece (n := m) hlt).1
      have HS : Hid (∀ w8, WkV w8 B q g (nx7 R' m).2 → FrW q g w w8 → Tk8 w w8 B q g R N T K n (m - len5 (nx7 R' m).1) (P ++ [(nx7 R' m).1]) (nx7 R' m).2 ∧ 1 ≤ len5 (nx7 R' m).1 ∧ len5 (nx7 R' m).1 ≤ m) := fun w8 => HT.out.step hlt
      have HG : Hid (g < w.heap.size) := HB.out.2.1 (HT.out.ne h0)
      have hPL : PL.length ≤ 8388608 := by
        rw [forall2_len HO.out.2]
        have := HT.out.cnt
        have := HL.out
        omega
      have HF : Hid (FrW q g w wr) := HT.out.fr
      obtain ⟨e, he⟩ : ∃ x, (nx7 R' m).1 = x := ⟨_, rfl⟩
      obtain ⟨R2, hR2⟩ : ∃ x, (nx7 R' m).2 = x := ⟨_, rfl⟩
      rw [he] at hpc cN HS
      rw [hR2] at cN HS
      clear he hR2 h0 HT
      go_wp2_with fail
      refine cN.mono ?_; rintro r w2 ⟨s, rfl, o2, k2, f2⟩
      obtain ⟨u, y, hux⟩ := pieceQ_if e s
      have HU : Hid (pieceQ e s = .iface u y) := hux
      rw [hux]
      have f02 := HF.out.trans f2
      have ba : Below w2.heap.size w2 (w2.alloc (.cells #[.iface u y] 56)) := (Below.refl _ _).alloc (Nat.le_refl _) _
      have hu6 : (w2.alloc (.cells #[.iface u y] 56)).cell? ⟨w2.heap.size, 0, none⟩ = some (.iface u y) := by simp
      have hz2 : w.heap.size ≤ w2.heap.size := f02.size
      have HO7 : Hid (OwnI (w2.alloc (.cells #[.iface u y] 56)) w.heap.size u5 PL) := owns_below (frw_own f2 HO.out.1 HB.out.1 HG.out) ba
      have HP7 : Hid (PieD (w2.alloc (.cells #[.iface u y] 56)) B (PL ++ [.iface u y]) (P ++ [e])) := forall2_append ((HO.out.2.keep f2.keepA).below ba) (.cons ⟨s, HU.out.symm, owns_below o2 ba⟩ .nil)
      have hzA : w.heap.size ≤ (w2.alloc (.cells #[.iface u y] 56)).heap.size := Nat.le_trans hz2 ba.size
      have HK7 : Hid (∀ w8, (w2.alloc (.cells #[.iface u y] 56)).grownBy w8 u5.ownBlock → Tk8 w w8 B q g R N T K n (m - len5 e) (P ++ [e]) R2 ∧ PieD w8 B (PL ++ [.iface u y]) (P ++ [e]) ∧ 1 ≤ len5 e ∧ len5 e ≤ m ∧ ∀ w9, Below w8.heap.size w8 w9 → Tk8 w w9 B q g R N T K n (m - len5 e) (P ++ [e]) R2) := fun w8 gr8 => by
        have b8 : Below w.heap.size w2 w8 := (ba.mono hz2).grown gr8 hzA (fun j hj => (owns_block HO7.out j hj).1)
        have kA := keepA_grownI HO7.out gr8
        have one : ∀ w9, Below w.heap.size w2 w9 → KeepA w2 w9 → Tk8 w w9 B q g R N T K n (m - len5 e) (P ++ [e]) R2 ∧ 1 ≤ len5 e ∧ len5 e ≤ m := fun w9 b9 k9 => by
          refine HS.out w9 (k2.same8 (fun o ho => (b9.block q HB.out.1).trans ho) (fun _ o ho => (b9.block g HG.out).trans ho) k9) ⟨b9.os.trans f02.os, b9.tape.trans f02.tape, b9.output.trans f02.output, Nat.le_trans f02.size b9.size, fun k o hk ho => ?_⟩
          exact (b9.block k (Array.getElem?_eq_some_iff.1 hk).1).trans (f02.kept k o hk ho)
        have k8 : KeepA w2 w8 := fun k cur hk => by
          have h3 := keepA_below ba k cur hk
          rw [kA k cur (h3.trans hk), h3]
        obtain ⟨t1, t2, t3⟩ := one w8 b8 k8
        refine ⟨t1, HP7.out.keep kA, t2, t3, fun w9 b9 => (one w9 (b8.trans (b9.mono (Nat.le_trans hz2 b8.size))) (fun k cur hk => ?_)).1⟩
        have h3 := k8 k cur hk
        rw [keepA_below b9 k cur (h3.trans hk), h3]
      clear cN o2 k2 f2 f02 hux HS HO HF ba
      go_wp2_with (first
        | (at_builtin; refine wpList_append_piAt rfl (.tmp 16) (.tmp 18) rfl w.heap.size u5 PL rfl HO7.out w2.heap.size 1 (.iface u y) rfl hu6 rfl hPL hzA ?_; intro v8 w8 own8 gr8 hat8; obtain ⟨-, hP8, hl1, hl2, hT8⟩ := HK7.out w8 gr8; have HO8 : Hid (OwnI w8 w.heap.size v8 (PL ++ [.iface u y]) ∧ PieD w8 B (PL ++ [.iface u y]) (P ++ [e])) := ⟨own8, hP8⟩; have HT8 : Hid _ := hT8; clear own8 gr8 hat8 HO7 HP7 HK7 hu6 hP8 hT8)
        | (refine wpList_lenP rfl (.tmp 21) rfl e s HU.out.symm hpc ?_; intro w9 b9; have HT9 := HT8.out w9 b9; have HO9 : Hid (OwnI w9 w.heap.size v8 (PL ++ [.iface u y]) ∧ PieD w9 B (PL ++ [.iface u y]) (P ++ [e])) := ⟨owns_below HO8.out.1 b9, HO8.out.2.below b9⟩; clear HT8 HO8))
      go_roundw
      case rel => exact ⟨_, _, _, _, rfl, by omega, by omega, HT9, HO9.out⟩
      case measure => simp [RowKit.intOf]; omega
    · have hm : m = 0 := by omega
      subst hm
      go_wp2
      go_ret
      exact ⟨_, rfl, P, ⟨R', HT.out⟩, PL, HO.out⟩
end Go.Proofs.YtalfdjglbbmjcaaGreatDoor

/- A delta of a list made canonical. -/
namespace Go.Proofs.YtalfdjglbbmjcaaGreatDoor
open Go Go.RowKit Go.Lib
set_option linter.unusedVariables false

theorem dle_of {w' : World} {C1 C2 : Nat} {dv : Value} {L : List Op5} (hd : DelV w' C1 C2 dv (canonL L)) (hg : ∀ o ∈ L, opE o = 0) (hfit : ∀ o ∈ L, FitA o) (hlen : L.length ≤ 2097152) (ht : txtS L ≤ 4194304) (hf : Fits8 L) : DlE w' C1 C2 dv (canonL L) ∧ (canonL L).length ≤ L.length ∧ txtS (canonL L) ≤ txtS L := by
  obtain ⟨k1, k2, k3⟩ := canon_ok (E := L) ⟨hg, hfit, by omega, by omega, hf.1, hf.2⟩
  exact ⟨⟨hd, k1.good, k1.fit, by omega, by omega, k1.base, k1.res⟩, by omega, by omega⟩
end Go.Proofs.YtalfdjglbbmjcaaGreatDoor

/- measure: Slice. -/
namespace Go.Proofs.YtalfdjglbbmjcaaGreatDoor
open Go Go.RowKit Go.Lib
set_option linter.unusedVariables false

theorem Hid.mk7' {P : Prop} (h : P) : Hid P := h
/-- Nothing but inserts. -/
def InsU (U : List U6) : Prop := ∃ l : List C5, U = l.map .ins
theorem insU_of : ∀ {U : List U6}, baseU U = 0 → InsU U
  | [], _ => ⟨[], rfl⟩
  | .ins c :: U, h => by
    have h2 : baseU U = 0 := by unfold baseU at h ⊢; simpa using h
    obtain ⟨l, hl⟩ := insU_of h2
    exact ⟨c :: l, by rw [hl]; rfl⟩
  | .keep A :: U, h => by unfold baseU at h; simp at h
  | .del :: U, h => by unfold baseU at h; simp at h
theorem InsU.append {U V : List U6} (h : InsU (U ++ V)) : InsU U ∧ InsU V := by
  obtain ⟨l, hl⟩ := h
  refine ⟨⟨l.take U.length, ?_⟩, ⟨l.drop U.length, ?_⟩⟩
  · have := congrArg (List.take U.length) hl
    rw [List.take_left, ← List.map_take] at this
    exact this
  · have := congrArg (List.drop U.length) hl
    rw [List.drop_left, ← List.map_drop] at this
    exact this
theorem InsU.nrm {U : List U6} (h : InsU U) : stripU (nrm [] 0 U) = U := by
  obtain ⟨l, rfl⟩ := h
  rw [nrm_ins0, strip_ins]
theorem InsU.sums {U : List U6} (h : InsU U) : baseU U = 0 ∧ resU U = U.length := by
  obtain ⟨l, rfl⟩ := h
  unfold baseU resU
  constructor
  · rw [countP_none]; intro u hu; obtain ⟨c, _, rfl⟩ := List.mem_map.1 hu; rfl
  · rw [countP_all]; intro u hu; obtain ⟨c, _, rfl⟩ := List.mem_map.1 hu; rfl
/-- What Slice answers. -/
def SlR (a : Nat → Addr) (w' : World) (E : List Op5) (i j : Int) (dv er : Value) : Prop :=
  (0 < sumB E → dv = .pointer none ∧ er = errV a 8) ∧
  (sumB E = 0 → (i < 0 ∨ j < i ∨ sumR E < j) → dv = .pointer none ∧ er = errV a 11) ∧
  (sumB E = 0 → ¬ (i < 0 ∨ j < i ∨ sumR E < j) → er = .nilIface ∧ ∃ L C1 C2, DlE w' C1 C2 dv L ∧ CanO L ∧ units L = ((units E).drop i.toNat).take (j - i).toNat ∧ L.length ≤ E.length + 1 ∧ txtS L ≤ 2 * txtS E)
set_option maxHeartbeats 4000000 in
set_option maxRecDepth 100000 in
theorem slice8_any {I : List Nat} {a : Nat → Addr} {B1 B2 : Nat} (v : Value) (E : List Op5) (i j : Int) (w : World) (hI : ∀ i ∈ IxO, i ∈ I) (h11 : 11 ∈ I) (hS : Std I a w) (hE : DlE w B1 B2 v E) (hc : CanO E) (hl : E.length + 1 ≤ 2097152) (ht : txtS E ≤ 2097152) (hi : -9223372036854775808 ≤ i ∧ i ≤ 9223372036854775807) (hj : -9223372036854775808 ≤ j ∧ j ≤ 9223372036854775807) :
    Calls Tryz.prog 47 #[v, .int .i64 i, .int .i64 j] w fun r w' => ∃ dv er, r = .returned (.tuple #[dv, er]) ∧ SlR a w' E i j dv er ∧ Below w.heap.size w w' := by
  have c1 := count_any8 v E w hE
  have hs := hE.sums
  have cB := fun W => cbase_any (sumK8 E) (sumI8 E) (sumD8 E) W ⟨hs.1, hs.2.2.1⟩
  have cR := fun W => cresult_any (sumK8 E) (sumI8 E) (sumD8 E) W ⟨hs.1, hs.2.1⟩
  rw [← hs.2.2.2.1] at cB
  rw [← hs.2.2.2.2] at cR
  have gO : w.cell? ⟨2, 0, none⟩ = some (errV a 8) := hS.er.cell 8 (hI 8 (by decide))
  have gR : w.cell? ⟨1, 0, none⟩ = some (errV a 11) := hS.er.cell 11 h11
  obtain ⟨q1, pv1, PL1, rfl, _⟩ := id hE.d
  have HE : Hid (DlE w B1 B2 (.pointer (some ⟨q1, 0, none⟩)) E ∧ CanO E ∧ E.length + 1 ≤ 2097152 ∧ txtS E ≤ 2097152 ∧ Std I a w) := ⟨hE, hc, hl, ht, hS⟩
  have hnn := sums_nn hE.wel
  have hff := hE.fits
  unfold Fits8 at hff
  obtain ⟨B, hB⟩ : ∃ x, sumB E = x := ⟨_, rfl⟩
  obtain ⟨R, hR⟩ : ∃ x, sumR E = x := ⟨_, rfl⟩
  obtain ⟨K, hK⟩ : ∃ x, sumK8 E = x := ⟨_, rfl⟩
  obtain ⟨J, hJ⟩ : ∃ x, sumI8 E = x := ⟨_, rfl⟩
  obtain ⟨D, hD⟩ : ∃ x, sumD8 E = x := ⟨_, rfl⟩
  have HB : Hid (sumB E = B ∧ sumR E = R) := ⟨hB, hR⟩
  rw [hB, hR] at hnn hff
  simp only [hK, hJ, hD] at c1
  simp only [hK, hJ, hD, hB] at cB
  simp only [hK, hJ, hD, hR] at cR
  unfold cnt8 at c1 cB cR
  have HI : Hid (∀ i ∈ IxO, i ∈ I) := hI
  clear hE hs hc hl ht hS hB hR hK hJ hD hI
  go_enter Tryz.func47, Tryz.ntmps47
  go_wp2_with fail
  refine c1.mono ?_; rintro r w2 ⟨rfl, b2⟩
  have c2 := cB (w2.alloc (.cells #[.int .i64 K, .int .i64 J, .int .i64 D] 146))
  have ba : Below w2.heap.size w2 (w2.alloc (.cells #[.int .i64 K, .int .i64 J, .int .i64 D] 146)) := (Below.refl _ _).alloc (Nat.le_refl _) _
  have b3 := b2.trans (ba.mono b2.size)
  have hx := heap_alloc_new w2 (.cells #[.int .i64 K, .int .i64 J, .int .i64 D] 146)
  obtain ⟨X, hX⟩ : ∃ X, w2.heap.size = X := ⟨_, rfl⟩
  go_wp2_with fail
  refine c2.mono ?_; rintro r w4 ⟨rfl, b4⟩
  have hx4 := heap_below b4 hx
  have k0 : w4.cell? ⟨w2.heap.size, 0, none⟩ = some (.int .i64 K) := by rw [cell_of_heap hx4]; rfl
  have k1 : w4.cell? ⟨w2.heap.size, 1, none⟩ = some (.int .i64 J) := by rw [cell_of_heap hx4]; rfl
  have k2 : w4.cell? ⟨w2.heap.size, 2, none⟩ = some (.int .i64 D) := by rw [cell_of_heap hx4]; rfl
  rw [hX] at k0 k1 k2
  have hb4 := b3.trans (b4.mono b3.size)
  have g4 := (hb4.cell (lt_of_cell gO)).trans gO
  have g5 := (hb4.cell (lt_of_cell gR)).trans gR
  clear c1 c2 cB b2 ba b3 b4 hx hx4 gO gR
  by_cases hB0 : 0 < B
  · have hB1 : B > 0 := hB0
    have HR : Hid (∀ W, SlR a W E i j (.pointer none) (errV a 8)) := fun W => ⟨fun _ => ⟨rfl, rfl⟩, fun h => (by have := HB.out.1; omega), fun h => (by have := HB.out.1; omega)⟩
    clear HE cR k0 k1 k2 g5
    go_wp2
    go_quiet (fail)
    go_wp2
    go_ret2
    exact ⟨_, _, rfl, HR.out _, below_drewN hb4 _⟩
  have hB1 : ¬ B > 0 := by omega
  have hBz : B = 0 := by omega
  by_cases hbad : i < 0 ∨ j < i ∨ R < j
  · have HR : Hid (∀ W, SlR a W E i j (.pointer none) (errV a 11)) := fun W => ⟨fun h => (by have := HB.out.1; omega), fun _ _ => ⟨rfl, rfl⟩, fun _ h => absurd (by have := HB.out.2; omega) h⟩
    by_cases h1 : i < 0
    · clear HE cR k0 k1 k2 g4 hbad
      go_wp2
      go_quiet (fail)
      go_wp2
      go_ret2
      exact ⟨_, _, rfl, HR.out _, below_drewN hb4 _⟩
    by_cases h2 : i > j
    · clear HE cR k0 k1 k2 g4 hbad
      go_wp2
      go_quiet (fail)
      go_wp2
      go_ret2
      exact ⟨_, _, rfl, HR.out _, below_drewN hb4 _⟩
    have h3 : j > R := by omega
    have c3 := cR w4
    clear HE cR g4 hbad
    go_wp2_with fail
    refine c3.mono ?_; rintro r w5 ⟨rfl, b5⟩
    have hb5 := hb4.trans (b5.mono hb4.size)
    have g6 := (b5.cell (lt_of_cell g5)).trans g5
    clear c3 b5 hb4 g5 k0 k1 k2
    go_wp2
    go_quiet (fail)
    go_wp2
    go_ret2
    exact ⟨_, _, rfl, HR.out _, below_drewN hb5 _⟩
  have h1 : ¬ i < 0 := by omega
  have h2 : ¬ i > j := by omega
  have h3 : ¬ j > R := by omega
  have hsub : IntKind.i64.wrap (j - i) = j - i := by rw [IntKind.wrap_i64]; omega
  obtain ⟨n, hn⟩ : ∃ n, j - i = n := ⟨_, rfl⟩
  have hins : InsU (units E) := insU_of (by have := HB.out.1; rw [sumB_units HE.out.1.wel] at this; omega)
  have hlen : ((units E).length : Int) = R := by have := HB.out.2; rw [sumR_units HE.out.1.wel, hins.sums.2] at this; exact this
  have HU : Hid (InsU (units E) ∧ ((units E).length : Int) = R ∧ 0 ≤ i ∧ i ≤ j ∧ j ≤ R ∧ R ≤ 1099511627776 ∧ j - i = n ∧ sumB E = 0) := ⟨hins, hlen, by omega, by omega, by omega, hff.2, hn, by rw [HB.out.1]; exact hBz⟩
  have hRst : Rst E E.length (txtS E) 1048576 := ⟨HE.out.1.g, HE.out.1.fit, Nat.le_refl _, fun o ho => (HE.out.1.fit o ho).n, Nat.le_refl _, HE.out.2.1.chain, HE.out.2.1.last, HE.out.1.fits.1, HE.out.1.fits.2⟩
  have HRst : Hid (Rst E E.length (txtS E) 1048576) := hRst
  have HNT : Hid (E.length ≤ 2097151 ∧ txtS E ≤ 2097152) := ⟨by have := HE.out.2.2.1; omega, HE.out.2.2.2.1⟩
  have c3 := cR w4
  rw [hn] at hsub
  clear cR g4 g5 hbad hins hlen hRst hB0 hBz hnn hff
  go_wp2_with fail
  refine c3.mono ?_; rintro r w5 ⟨rfl, b5⟩
  have hb5 := hb4.trans (b5.mono hb4.size)
  have HE5 := Hid.mk7' (HE.out.1.below hb5)
  have c5 := newW_any _ E w5 HE5.out.d HE5.out.g HE5.out.n (by have := HE5.out.len; omega)
  clear c3 b5 hb4 k0 k1 k2
  go_wp2_with fail
  refine c5.mono ?_; rintro r w6 ⟨q, g, rfl, hw6, hg6, b6⟩
  have hb6 := hb5.trans (b6.mono hb5.size)
  have c6 := take8_any i w6 hw6 hg6 HRst.out (by have := HNT.out; omega) (by decide) (by have := HNT.out; omega) ⟨HU.out.2.2.1, by have := HU.out; omega, by have := HU.out; omega⟩
  have HQ6 : Hid (w5.heap.size ≤ q ∧ w5.heap.size ≤ g ∧ w5.heap.size ≤ w6.heap.size ∧ w.heap.size ≤ w5.heap.size) := ⟨hw6.lq, hw6.lg, b6.size, hb5.size⟩
  have HG6 : Hid (E ≠ [] → g < w6.heap.size) := hg6
  clear c5 hw6 hg6 b6 hb5 HE5
  go_wp2_with fail
  refine c6.mono ?_; rintro r w7 ⟨v7, rfl, P1, R1, T1, PL1, own1, -⟩
  obtain ⟨p7, n7, rfl⟩ := own_slice own1
  have hb7 : Below w.heap.size w w7 := hb6.trans ((T1.fr.below HQ6.out.1 HQ6.out.2.1 HQ6.out.2.2.1).mono HQ6.out.2.2.2)
  have hu1 := T1.un
  have hl1 := T1.len
  have hR1 : units R1 = (units E).drop i.toNat := by
    rw [hu1, show i.toNat = (units P1).length by omega, List.drop_left]
  have hlR1 : n ≤ ((units R1).length : Int) := by
    rw [hR1, List.length_drop]
    have := HU.out
    omega
  have c7 := take8_any n w7 T1.wk (fun h => by have := HG6.out (T1.ne h); have := T1.fr.size; omega) T1.rst (by have := HNT.out; omega) (by decide) (by have := HNT.out; omega) ⟨by have := HU.out; omega, hlR1, by have := HU.out; omega⟩
  have HT1 : Hid (units R1 = (units E).drop i.toNat ∧ Rst R1 E.length (txtS E) 1048576 ∧ w6.heap.size ≤ w7.heap.size) := ⟨hR1, T1.rst, T1.fr.size⟩
  obtain ⟨m7, hm7⟩ : ∃ m, PL1.length = m := ⟨_, rfl⟩
  rw [hm7]
  clear c6 own1 hu1 hl1 hR1 hlR1 T1 hb6 hm7 HG6
  go_wp2_with fail
  refine c7.mono ?_; rintro r w8 ⟨v8, rfl, P2, R2, T2, PL2, own2, pie2⟩
  have hb8 : Below w.heap.size w w8 := hb7.trans ((T2.fr.below HQ6.out.1 HQ6.out.2.1 (Nat.le_trans HQ6.out.2.2.1 HT1.out.2.2)).mono HQ6.out.2.2.2)
  have hu2 := T2.un
  have hl2 := T2.len
  have hP2 : units P2 = ((units E).drop i.toNat).take (j - i).toNat := by
    rw [← HT1.out.1, hu2, HU.out.2.2.2.2.2.2.1, show n.toNat = (units P2).length by omega, List.take_left]
  have hiU : InsU (units P2) := by
    have h := HU.out.1
    rw [← List.take_append_drop i.toNat (units E), ← HT1.out.1, hu2] at h
    exact h.append.2.append.1
  have hg2 : ∀ o ∈ P2, opE o = 0 := fun o ho => (T2.good o ho).1
  have hw2 : ∀ o ∈ P2, Wel o := fun o ho => wel_of (hg2 o ho)
  have hfit : Fits8 P2 := by
    unfold Fits8
    rw [sumB_units hw2, sumR_units hw2, hiU.sums.1, hiU.sums.2]
    have := HU.out
    omega
  have hln0 : P2.length ≤ E.length + 1 := by have := T2.cnt; have := HT1.out.2.1.len; omega
  have htx0 : txtS P2 ≤ 2 * txtS E := by have := T2.cnt; have := HT1.out.2.1.txt; omega
  have hln : P2.length ≤ 2097152 := by have := HNT.out; omega
  have htx : txtS P2 ≤ 4194304 := by have := HNT.out; omega
  have HS8 := HE.out.2.2.2.2.below hb8
  have c8 := gath8_any v8 PL2 P2 w8 HI.out HS8 own2 pie2 hg2 (fun o ho => (T2.good o ho).2) hln (by omega)
  have HR : Hid (∀ W' C1 C2 dv, DelV W' C1 C2 dv (canonL P2) → SlR a W' E i j dv .nilIface) := fun W' C1 C2 dv hd => ⟨fun h => (by have := HU.out; omega), fun _ h => absurd h (by have := HU.out; have := HB.out; omega), fun _ _ => ⟨rfl, canonL P2, C1, C2, (dle_of hd hg2 (fun o ho => (T2.good o ho).2) hln htx hfit).1, .of hw2, by
    obtain ⟨_, _, _, h⟩ := canon_spec hw2
    rw [h, hiU.nrm, hP2], by have := (dle_of hd hg2 (fun o ho => (T2.good o ho).2) hln htx hfit).2.1; omega, by have := (dle_of hd hg2 (fun o ho => (T2.good o ho).2) hln htx hfit).2.2; omega⟩⟩
  have HFit : Hid (Fits8 P2) := hfit
  obtain ⟨p8, n8, rfl⟩ := own_slice own2
  obtain ⟨m8, hm8⟩ : ∃ m, PL2.length = m := ⟨_, rfl⟩
  rw [hm8] at c8 ⊢
  clear c7 own2 pie2 hu2 hl2 hP2 hiU hg2 hw2 hfit hln htx hln0 htx0 HS8 hb7 T2 hm8
  go_wp2_with fail
  refine c8.mono ?_; rintro r w9 ⟨dv, er, rfl, y1, -, b9⟩
  obtain ⟨rfl, hd⟩ := y1 HFit.out
  have HR9 := Hid.mk7' (HR.out _ _ _ _ hd)
  obtain ⟨q9, pv9, PL9, rfl, _⟩ := id hd
  have hb9 := hb8.trans (b9.mono hb8.size)
  clear c8 y1 hd b9 hb8 HR
  go_wp2
  go_ret2
  exact ⟨_, _, rfl, HR9.out, hb9⟩
end Go.Proofs.YtalfdjglbbmjcaaGreatDoor

/- The document's Slice of layer 8, purely: the pieces of inserts from a place on up to another one. -/
namespace Go.Proofs.YtalfdjglbbmjcaaGreatDoor
open Go Go.RowKit Go.Lib
set_option linter.unusedVariables false

/-- How long an operation is. -/
def lnS (o : Op5) : Nat := (len5 o).toNat
/-- An operation's cells from f up to h. -/
def pcS (o : Op5) (f h : Nat) : Op5 :=
  if h < lnS o then hd7 (if 0 < f then tl7 o f else o) ((h : Int) - f) else if 0 < f then tl7 o f else o
/-- The pieces of inserts from f up to t. -/
def slS (f t : Nat) : List Op5 → List Op5
  | [] => []
  | o :: r => (if f < min t (lnS o) then [pcS o f (min t (lnS o))] else []) ++ slS (f - lnS o) (t - lnS o) r
def totS (E : List Op5) : Nat := (E.map lnS).sum
theorem totS_cons (o : Op5) (r : List Op5) : totS (o :: r) = lnS o + totS r := by simp [totS]
theorem totS_snoc (F : List Op5) (o : Op5) : totS (F ++ [o]) = totS F + lnS o := by simp [totS]
theorem slS_snoc : ∀ (F : List Op5) (o : Op5) (f t : Nat), slS f t (F ++ [o]) = slS f t F ++ (if f - totS F < min (t - totS F) (lnS o) then [pcS o (f - totS F) (min (t - totS F) (lnS o))] else [])
  | [], o, f, t => by simp [slS, totS]
  | x :: F, o, f, t => by
    rw [List.cons_append, slS, slS, slS_snoc F o, totS_cons, ← List.append_assoc, Nat.sub_sub, Nat.sub_sub]
theorem slS_zero (f : Nat) : ∀ (E : List Op5), slS f 0 E = []
  | [] => rfl
  | o :: r => by rw [slS, if_neg (by omega), Nat.zero_sub, slS_zero (f - lnS o) r]; rfl
/-- What one piece is. -/
structure PcS (o p : Op5) (f h : Nat) : Prop where
  good : opE p = 0
  k : p.k = o.k
  A : p.A = o.A
  v : p.v = o.v
  t : p.t.size ≤ o.t.size
  un : unitsO p = ((unitsO o).take h).drop f
theorem lnS_units {o : Op5} (h : Wel o) : (unitsO o).length = lnS o := by
  have := len5_units h
  unfold lnS; omega
theorem pcS_ok {o : Op5} (hg : opE o = 0) {f h : Nat} (h1 : f < h) (h2 : h ≤ lnS o) : PcS o (pcS o f h) f h := by
  have hl : len5 o = lnS o := by have := len5_pos hg; unfold lnS; omega
  have hu := lnS_units (wel_of hg)
  unfold pcS
  by_cases hf : 0 < f
  · rw [if_pos hf]
    have c := cut7 (o := o) (n := f) hg (by omega) (by omega)
    have hu1 : (unitsO (hd7 o f)).length = f := by
      have := len5_units (wel_of c.h0)
      rw [c.hl] at this
      omega
    have hun : unitsO (tl7 o f) = (unitsO o).drop f := by rw [c.un, List.drop_left' hu1]
    by_cases hh : h < lnS o
    · rw [if_pos hh]
      have c2 := cut7 (o := tl7 o f) (n := (h : Int) - f) c.t0 (by omega) (by rw [c.tl]; omega)
      have hu2 : (unitsO (hd7 (tl7 o f) ((h : Int) - f))).length = h - f := by
        have := len5_units (wel_of c2.h0)
        rw [c2.hl] at this
        omega
      refine ⟨c2.h0, c2.hk.trans c.tk, c2.hA.trans c.tA, c2.hv.trans c.tv, Nat.le_trans c2.hz c.tz, ?_⟩
      have e : unitsO (hd7 (tl7 o f) ((h : Int) - f)) = (unitsO (tl7 o f)).take (h - f) := by rw [c2.un, List.take_left' hu2]
      rw [e, hun, List.drop_take]
    · rw [if_neg hh]
      refine ⟨c.t0, c.tk, c.tA, c.tv, c.tz, ?_⟩
      rw [hun, List.take_of_length_le (by omega)]
  · rw [if_neg hf]
    obtain rfl : f = 0 := by omega
    by_cases hh : h < lnS o
    · rw [if_pos hh]
      have c2 := cut7 (o := o) (n := (h : Int) - (0 : Nat)) hg (by omega) (by omega)
      have hu2 : (unitsO (hd7 o ((h : Int) - (0 : Nat)))).length = h := by
        have := len5_units (wel_of c2.h0)
        rw [c2.hl] at this
        omega
      refine ⟨c2.h0, c2.hk, c2.hA, c2.hv, c2.hz, ?_⟩
      rw [List.drop_zero, c2.un, List.take_left' hu2]
    · rw [if_neg hh]
      exact ⟨hg, rfl, rfl, rfl, Nat.le_refl _, by rw [List.drop_zero, List.take_of_length_le (by omega)]⟩
/-- What the pieces are. -/
theorem slS_mem : ∀ (E : List Op5), (∀ o ∈ E, opE o = 0) → ∀ (f t : Nat), ∀ p ∈ slS f t E, ∃ o ∈ E, ∃ f' h', PcS o p f' h'
  | [], _, f, t, p, hp => by cases hp
  | o :: r, hg, f, t, p, hp => by
    rw [slS] at hp
    rcases List.mem_append.1 hp with hp | hp
    · split at hp
      · rename_i h
        rw [List.mem_singleton.1 hp]
        exact ⟨o, List.mem_cons_self .., _, _, pcS_ok (hg o (List.mem_cons_self ..)) h (Nat.min_le_right _ _)⟩
      · cases hp
    · obtain ⟨x, hx, y⟩ := slS_mem r (fun z hz => hg z (List.mem_cons_of_mem _ hz)) _ _ p hp
      exact ⟨x, List.mem_cons_of_mem _ hx, y⟩
theorem slS_len : ∀ (E : List Op5) (f t : Nat), (slS f t E).length ≤ E.length
  | [], f, t => Nat.le_refl _
  | o :: r, f, t => by
    have := slS_len r (f - lnS o) (t - lnS o)
    rw [slS, List.length_append, List.length_cons]
    split <;> simp <;> omega
theorem slS_txt : ∀ (E : List Op5), (∀ o ∈ E, opE o = 0) → ∀ (f t : Nat), txtS (slS f t E) ≤ txtS E
  | [], _, f, t => Nat.le_refl _
  | o :: r, hg, f, t => by
    have ih := slS_txt r (fun z hz => hg z (List.mem_cons_of_mem _ hz)) (f - lnS o) (t - lnS o)
    rw [slS, txtS_append, txtS_cons]
    split
    · rename_i h
      have := (pcS_ok (hg o (List.mem_cons_self ..)) h (Nat.min_le_right _ _)).t
      rw [txtS_one]; omega
    · show 0 + _ ≤ _; omega
theorem slS_units : ∀ (E : List Op5), (∀ o ∈ E, opE o = 0) → ∀ (f t : Nat), units (slS f t E) = ((units E).take t).drop f
  | [], _, f, t => by simp [slS, units]
  | o :: r, hg, f, t => by
    have ho := hg o (List.mem_cons_self ..)
    have ih := slS_units r (fun z hz => hg z (List.mem_cons_of_mem _ hz)) (f - lnS o) (t - lnS o)
    have hu := lnS_units (wel_of ho)
    rw [slS, units_append, ih]
    show _ = ((unitsO o ++ units r).take t).drop f
    rw [List.take_append, List.drop_append, List.length_take, hu]
    congr 1
    · split
      · rename_i h
        rw [units_one, (pcS_ok ho h (Nat.min_le_right _ _)).un]
        congr 1
        by_cases hm : t ≤ lnS o
        · rw [Nat.min_eq_left hm]
        · rw [Nat.min_eq_right (by omega), List.take_of_length_le (Nat.le_of_eq hu), List.take_of_length_le (by omega)]
      · rename_i h
        show [] = _
        symm
        rw [List.drop_eq_nil_iff, List.length_take, hu]
        omega
    · by_cases hm : t ≤ lnS o
      · rw [show t - lnS o = 0 by omega]; simp
      · rw [show min t (lnS o) = lnS o by omega]
theorem apart_same2 {x y y' : Op5} (hk : y'.k = y.k) (hA : y'.A = y.A) : apartB x y' = apartB x y := by unfold apartB; rw [hk, hA]
theorem slS_head : ∀ {y : Op5} {r : List Op5}, opE y = 0 → ∀ (t : Nat), 0 < t → ∃ p s, slS 0 t (y :: r) = p :: s ∧ p.k = y.k ∧ p.A = y.A
  | y, r, hg, t, ht => by
    have hl := len5_pos hg
    have hln : 0 < lnS y := by unfold lnS; omega
    have h : 0 < min t (lnS y) := by omega
    have := pcS_ok hg h (Nat.min_le_right t (lnS y))
    refine ⟨_, _, by rw [slS, if_pos h]; rfl, this.k, this.A⟩
theorem slS_chain : ∀ (E : List Op5), (∀ o ∈ E, opE o = 0) → chainB E = true → ∀ (f t : Nat), chainB (slS f t E) = true
  | [], _, _, f, t => rfl
  | [o], hg, _, f, t => by
    rw [slS]
    show chainB (_ ++ []) = true
    rw [List.append_nil]
    split <;> rfl
  | o :: y :: r, hg, hc, f, t => by
    have ho := hg o (List.mem_cons_self ..)
    have hgr : ∀ z ∈ y :: r, opE z = 0 := fun z hz => hg z (List.mem_cons_of_mem _ hz)
    have ih := slS_chain (y :: r) hgr (chain_tail hc) (f - lnS o) (t - lnS o)
    rw [slS]
    split
    · rename_i h
      have hp := pcS_ok ho h (Nat.min_le_right _ _)
      by_cases ht : lnS o < t
      · obtain ⟨p, s, e, k1, k2⟩ := slS_head (y := y) (r := r) (hgr y (List.mem_cons_self ..)) (t - lnS o) (by omega)
        have hf : f - lnS o = 0 := by omega
        rw [hf] at ih ⊢
        rw [e] at ih ⊢
        show chainB (pcS o f (min t (lnS o)) :: p :: s) = true
        have hc0 : apartB o y = true := by
          have : chainB (o :: y :: r) = (apartB o y && chainB (y :: r)) := rfl
          rw [this] at hc
          exact (Bool.and_eq_true_iff.1 hc).1
        show (apartB _ p && chainB (p :: s)) = true
        rw [ih, Bool.and_true, apart_same hp.k hp.A, apart_same2 k1 k2]
        exact hc0
      · rw [show t - lnS o = 0 by omega, slS_zero]
        rfl
    · rw [List.nil_append]; exact ih
theorem last_ins : ∀ {P : List Op5}, (∀ p ∈ P, p.k = 1 ∨ p.k = 2) → lastP P = true := fun {P} h => by
  rcases List.eq_nil_or_concat P with rfl | ⟨m, c, rfl⟩
  · rfl
  · rw [List.concat_eq_append, lastP_snoc]
    have := h c (by simp)
    unfold plainR
    simp; omega
theorem slS_can {E : List Op5} (hg : ∀ o ∈ E, opE o = 0) (hc : chainB E = true) (hd : ∀ o ∈ E, o.k = 1 ∨ o.k = 2) (f t : Nat) : CanO (slS f t E) := by
  refine ⟨fun p hp => ?_, slS_chain E hg hc f t, last_ins fun p hp => ?_⟩
  · obtain ⟨o, ho, f', h', q⟩ := slS_mem E hg f t p hp
    exact wel_of q.good
  · obtain ⟨o, ho, f', h', q⟩ := slS_mem E hg f t p hp
    rw [q.k]; exact hd o ho
end Go.Proofs.YtalfdjglbbmjcaaGreatDoor

/- What vellumref01.Text answers: the encodings, one behind the other. -/
namespace Go.Proofs.YtalfdjglbbmjcaaGreatDoor
open Go Go.RowKit Go.Lib
set_option linter.unusedVariables false

theorem info8 : ∃ i, Tryz.prog.info? 5 = some i ∧ i.zero = some (.int .u8 0) ∧ i.size = 1 ∧ i.bytes = 1 := by
  obtain ⟨i, hi, h⟩ := Option.map_eq_some_iff.1 (show (Tryz.prog.info? 5).map (fun i => (i.zero, i.size, i.bytes)) = some (some (.int .u8 0), 1, 1) by kernel_rfl)
  simp only [Prod.mk.injEq] at h
  exact ⟨i, hi, h.1, h.2.1, h.2.2⟩

theorem strCells_byteR (s : ByteArray) : strCells s = Go.Lib.byteCells s.data.toList := by
  first | rfl | (unfold strCells Go.Lib.byteCells; simp)

theorem owns_bytes {w : World} {B : Nat} {v : Value} {l : List UInt8} (h : w.ownsRow B 5 1 v l.length (Go.Lib.byteCells l)) :
    (convert 95 9 v).run Tryz.prog w = .ok (.string ⟨l.toArray⟩) w := by
  rcases h.2 with ⟨rfl, h0⟩ | ⟨g, cap, cur, rfl, h2, h3, h4, h5, h6, h7⟩
  · have : l = [] := List.eq_nil_of_length_eq_zero h0
    subst this
    exact run_convert_bytes_nil w 95 5 Tryz.underlying95 Tryz.underlying5 0 0 9 Tryz.underlying9
  · refine run_convert_bytes_back w 95 9 5 ⟨g, 0, none⟩ cap l Tryz.underlying95 Tryz.underlying5 Tryz.underlying9 fun j hj => ?_
    have := congrArg (·[j]?) h7
    simp only [Nat.mul_one, List.getElem?_take, hj, if_true] at this
    have e : (Go.Lib.byteCells l)[j]? = some (.int .u8 ((l[j]).toNat : Int)) := by simp [Go.Lib.byteCells, List.getElem?_eq_getElem hj]
    rw [e] at this
    have ea : (⟨g, 0, none⟩ : Addr).add j = ⟨g, j, none⟩ := by cases j <;> simp [Addr.add]
    rw [ea]
    simp only [World.cell?, h3]
    simpa using this
theorem encs_le4 : ∀ (rs : List Nat), (∀ r ∈ rs, scal r) → (encs rs).length ≤ 4 * rs.length
  | [], _ => Nat.zero_le _
  | r :: rs, h => by
    have h1 := (enc_pos (h r (by simp))).2
    have h2 := encs_le4 rs fun x hx => h x (by simp [hx])
    simp only [encs, List.length_append, List.length_cons]
    omega
theorem pos_lt4 (rs : List Nat) (h : ∀ r ∈ rs, scal r) (k : Nat) : pos rs k ≤ 4 * rs.length := Nat.le_trans (pos_le rs k) (encs_le4 rs h)

set_option maxHeartbeats 1000000 in
theorem ref_text4 (p : Option Addr) (cap : Nat) (rs : List Nat) (w : World) (hcell0 : ∀ k, (hk : k < rs.length) → ∃ b off, p = some ⟨b, off, none⟩ ∧ w.cell? ⟨b, off + k, none⟩ = some (.int .i32 ((rs[k] : Nat) : Int))) (h : ∀ r ∈ rs, scal r) (hl : rs.length ≤ 8388608) :
    Calls Tryz.prog 121 #[.slice p rs.length cap] w fun e w' => e = .returned (.string ⟨(encs rs).toArray⟩) ∧ Below w.heap.size w w' := by
  obtain ⟨n, hn⟩ : ∃ n, rs.length = n := ⟨_, rfl⟩
  have hcell : ∀ k, (hk : k < n) → ∃ b off, p = some ⟨b, off, none⟩ ∧ w.cell? ⟨b, off + k, none⟩ = some (.int .i32 ((rs[k]'(by omega) : Nat) : Int)) := fun k hk => hcell0 k (by omega)
  have hle : ∀ k, pos rs k ≤ 140737488351232 := fun k => by
    have h1 := pos_lt4 rs h k
    omega
  have hnl : n ≤ 35184372087808 := by omega
  rw [hn]
  obtain ⟨i0, hi, hz, hz1, hz2⟩ := info8
  have hZ : Hid (i0.zero = some (.int .u8 0) ∧ i0.size = 1 ∧ i0.bytes = 1) := ⟨hz, hz1, hz2⟩
  clear hcell0 hl hz hz1 hz2
  go_enter Tryz.func121, Tryz.ntmps121
  go_wp2
  have hst : (w.alloc (.cells #[] 5)).ownsRow w.heap.size 5 1 (.slice (some ⟨w.heap.size, 0, none⟩) 0 0) 0 [] := World.ownsRow_made w #[] 0 (Nat.le_refl _) (Nat.zero_le _) rfl
  have hbi : Below w.heap.size w (w.alloc (.cells #[] 5)) := (Below.refl _ _).alloc (Nat.le_refl _) _
  obtain ⟨v0, hv0⟩ : ∃ v0 : Value, v0 = Value.slice (some ⟨w.heap.size, 0, none⟩) 0 0 := ⟨_, rfl⟩
  rw [← hv0] at hst ⊢
  obtain ⟨wi, hwi⟩ : ∃ wi, wi = w.alloc (.cells #[] 5) := ⟨_, rfl⟩
  rw [← hwi] at hst hbi ⊢
  clear hv0 hwi
  go_loopw [3, 9] (fun v i wr => ∃ k : Nat, k ≤ n ∧ i = .int .i64 k ∧ wr.ownsRow w.heap.size 5 1 v (pos rs k) (Go.Lib.byteCells (encs (rs.take k))) ∧ Below w.heap.size w wr) (fun _ i _ => n - (RowKit.intOf i).toNat)
  case atStart => exact ⟨0, Nat.zero_le _, rfl, hst, hbi⟩
  case round =>
    clear hst hbi
    obtain ⟨k, hk, rfl, hown, hbw⟩ := hrel
    by_cases hlt : k < n
    · obtain ⟨b, off, rfl, hcl⟩ := hcell k hlt
      have hr := h _ (List.getElem_mem (show k < rs.length by omega))
      have hp1 := pos_succ rs k (by omega)
      have hpl := hle (k + 1)
      have hT : Hid (encs (rs.take (k + 1)) = encs (rs.take k) ++ enc (rs[k]'(by omega))) := by
        show _ = _
        rw [List.take_succ_eq_append_getElem (by omega), encs_snoc]
      obtain ⟨R, hR⟩ : ∃ R, rs[k]'(by omega) = R := ⟨_, rfl⟩
      rw [hR] at hcl hr hp1 hT
      have hcl' : wr.cell? ⟨b, off + k, none⟩ = _ := (hbw.cell (lt_of_cell hcl)).trans hcl
      have henc := fun W => ref_encode R hr W
      have hes : (⟨(enc R).toArray⟩ : ByteArray).size = (enc R).length := by show (enc R).toArray.size = _; simp
      have hel : Hid ((⟨(enc R).toArray⟩ : ByteArray).data.toList = enc R) := by show _ = _; simp
      obtain ⟨E, hE⟩ : ∃ E : ByteArray, ⟨(enc R).toArray⟩ = E := ⟨_, rfl⟩
      rw [hE] at henc hes hel
      obtain ⟨P, hP⟩ : ∃ P, pos rs k = P := ⟨_, rfl⟩
      obtain ⟨P2, hP2⟩ : ∃ P, pos rs (k + 1) = P := ⟨_, rfl⟩
      rw [hP, hP2, ← hes] at hp1
      rw [hP2] at hpl
      rw [hP] at hown
      have HP : Hid (pos rs (k + 1) = P2) := hP2
      have HP1 : Hid (P2 = P + E.size) := hp1
      have hpE : P + E.size ≤ 140737488351232 := by omega
      clear hcell hcl hle hP hP2 hp1 hpl hr hR h hn hE hes
      go_wp2_with (first
        | (go_at_call 135; refine (henc _).mono ?_; rintro e w2 ⟨rfl, hb2⟩; have hown2 := owns_below hown hb2; have hbw2 := hbw.trans (hb2.mono hbw.size))
        | (at_builtin; refine wpList_append_own_string _ rfl _ _ 95 9 rfl w.heap.size 5 i0 Tryz.underlying95 Tryz.underlying9 hi hZ.out.1 hZ.out.2.1 hZ.out.2.2 _ P _ rfl hown2 E rfl (by unfold maxLen; omega) (by omega) hbw2.size ?_; intro v' w3 hown4 hgr4 _))
      have hb3 : Below w.heap.size w w3 := hbw2.grown hgr4 hbw2.size (fun k hk => (owns_block hown2 k hk).1)
      go_roundw
      case rel =>
        refine ⟨k + 1, by omega, by go_num, ?_, hb3⟩
        rw [HP.out, HP1.out, hT.out, Go.Lib.byteCells_append, ← hel.out, ← strCells_byteR]
        exact hown4
      case measure => simp [RowKit.intOf]; omega
    · obtain rfl : k = n := by omega
      have hall : rs.take k = rs := List.take_of_length_le (by omega)
      have hpa : pos rs k = (encs rs).length := by rw [← hn, pos_all]
      rw [hall, hpa] at hown
      have hcv := owns_bytes hown
      obtain ⟨T, hTT⟩ : ∃ T : ByteArray, ⟨(encs rs).toArray⟩ = T := ⟨_, rfl⟩
      have HT : Hid (T = (⟨(encs rs).toArray⟩ : ByteArray)) := hTT.symm
      rw [hTT] at hcv
      clear hcell hle h hall hpa hn hTT hown
      go_wp2
      go_ret
      rw [← HT.out]
      exact ⟨rfl, hbw⟩
end Go.Proofs.YtalfdjglbbmjcaaGreatDoor

/- An operation in memory behind stores. -/
namespace Go.Proofs.YtalfdjglbbmjcaaGreatDoor
open Go Go.RowKit Go.Lib
set_option linter.unusedVariables false

theorem BoxO.out {w w' : World} {lo hi B : Nat} {o : Op5} {s : Value} (h : BoxO w B o s) (u : Out lo hi w w') (hB : hi ≤ B) : BoxO w' B o s := by
  have e : ∀ i, w'.cell? ⟨B, i, none⟩ = w.cell? ⟨B, i, none⟩ := fun i => World.cell?_of_block (a := ⟨B, i, none⟩) (u.block B (lt_of_cell h.d0) (Or.inr hB))
  exact ⟨(e _).trans h.d0, (e _).trans h.d1, (e _).trans h.d2, (e _).trans h.d3, (e _).trans h.d4, (e _).trans h.d5, (e _).trans h.d6⟩
theorem BoxO.stored {w : World} {B : Nat} {o : Op5} {s : Value} (h : BoxO w B o s) (o' : Op5) (s' : Value) :
    BoxO (((((((w.setCell ⟨B, 0, none⟩ (.int .i64 o'.k)).setCell ⟨B, 1, none⟩ (.string o'.t)).setCell ⟨B, 2, none⟩ (.int .i64 o'.v.1)).setCell ⟨B, 3, none⟩ (.int .i64 o'.v.2.1)).setCell ⟨B, 4, none⟩ (.string o'.v.2.2)).setCell ⟨B, 5, none⟩ (.int .i64 o'.c)).setCell ⟨B, 6, none⟩ s') B o' s' := by
  have hs : ∀ (W : World) (i : Nat) (v : Value), (W.cell? ⟨B, i, none⟩).isSome = true → (W.setCell ⟨B, i, none⟩ v).cell? ⟨B, i, none⟩ = some v := fun W i v hi => World.cell?_setCell_same' _ _ _ hi
  have ho : ∀ (W : World) (i j : Nat) (v : Value), i ≠ j → (W.setCell ⟨B, j, none⟩ v).cell? ⟨B, i, none⟩ = W.cell? ⟨B, i, none⟩ := fun W i j v hij => World.cell?_setCell_other _ _ _ _ (fun e => by cases e; exact hij rfl)
  obtain ⟨d0, d1, d2, d3, d4, d5, d6⟩ := h
  refine ⟨?_, ?_, ?_, ?_, ?_, ?_, ?_⟩
  · rw [ho _ 0 6 _ (by decide), ho _ 0 5 _ (by decide), ho _ 0 4 _ (by decide), ho _ 0 3 _ (by decide), ho _ 0 2 _ (by decide), ho _ 0 1 _ (by decide)]; exact hs _ _ _ (by rw [d0]; rfl)
  · rw [ho _ 1 6 _ (by decide), ho _ 1 5 _ (by decide), ho _ 1 4 _ (by decide), ho _ 1 3 _ (by decide), ho _ 1 2 _ (by decide)]; exact hs _ _ _ (by rw [ho _ 1 0 _ (by decide), d1]; rfl)
  · rw [ho _ 2 6 _ (by decide), ho _ 2 5 _ (by decide), ho _ 2 4 _ (by decide), ho _ 2 3 _ (by decide)]; exact hs _ _ _ (by rw [ho _ 2 1 _ (by decide), ho _ 2 0 _ (by decide), d2]; rfl)
  · rw [ho _ 3 6 _ (by decide), ho _ 3 5 _ (by decide), ho _ 3 4 _ (by decide)]; exact hs _ _ _ (by rw [ho _ 3 2 _ (by decide), ho _ 3 1 _ (by decide), ho _ 3 0 _ (by decide), d3]; rfl)
  · rw [ho _ 4 6 _ (by decide), ho _ 4 5 _ (by decide)]; exact hs _ _ _ (by rw [ho _ 4 3 _ (by decide), ho _ 4 2 _ (by decide), ho _ 4 1 _ (by decide), ho _ 4 0 _ (by decide), d4]; rfl)
  · rw [ho _ 5 6 _ (by decide)]; exact hs _ _ _ (by rw [ho _ 5 4 _ (by decide), ho _ 5 3 _ (by decide), ho _ 5 2 _ (by decide), ho _ 5 1 _ (by decide), ho _ 5 0 _ (by decide), d5]; rfl)
  · exact hs _ _ _ (by rw [ho _ 6 5 _ (by decide), ho _ 6 4 _ (by decide), ho _ 6 3 _ (by decide), ho _ 6 2 _ (by decide), ho _ 6 1 _ (by decide), ho _ 6 0 _ (by decide), d6]; rfl)
end Go.Proofs.YtalfdjglbbmjcaaGreatDoor

/- What vellumref04.Cut answers. -/
namespace Go.Proofs.YtalfdjglbbmjcaaGreatDoor
open Go Go.RowKit Go.Lib
set_option linter.unusedVariables false

theorem cell_drew' (W : World) (a : Addr) : W.drew.cell? a = W.cell? a := rfl
theorem heap_drew' (W : World) (k : Nat) : W.drew.heap[k]? = W.heap[k]? := rfl
set_option maxHeartbeats 1500000 in
set_option maxRecDepth 100000 in
theorem refCut_ok {I : List Nat} {a : Nat → Addr} (o : Op5) (s : Value) (m : Nat) (w : World) (hS : Std I a w) (hR : RN w s o.A) (hF : Fit o) (hO : Ins o) (hk : o.k = 1) (h1 : 1 ≤ m) (hm : m < (scs o.t.data.toList).length) :
    Calls Tryz.prog 102 #[opV o s, .int .i64 m] w fun r w' => ∃ s1 s2, r = .returned (.tuple #[opV (headO o m) s1, opV (tailO o m) s2, .int .i64 0]) ∧ OwnA w' w.heap.size s1 o.A ∧ OwnA w' w.heap.size s2 o.A ∧ Below w.heap.size w w' := by
  have b0 := bx3_below w o s
  have c1 := ref_ins o s _ (hS.below b0) (hR.below b0) hF
  rw [hO.zero] at c1
  have c2 := fun W => refLen4_any o s W hO hF.t
  have hlen : lenO o = (scs o.t.data.toList).length := by unfold lenO; rw [if_pos hk]
  rw [hlen] at c2
  have c3 := fun W => ref_list o.t W (by have := hF.t; omega)
  have HCC : Hid (∀ W, Below w.heap.size w W → Calls Tryz.prog 128 #[s] W fun r w' => ∃ v', r = .returned v' ∧ OwnA w' W.heap.size v' o.A ∧ Below W.heap.size W w') := fun W hW => copied_any s o.A W (hR.below hW) (by have := hF.n; omega)
  obtain ⟨hv1, hv2, hv3⟩ := valid_text o.t hO.utf
  have hh := head_list hO.utf m
  have ht := tail_list hO.utf m
  have hfs := hF.t
  have Z0 := bx3_0 w o s
  have Z1 := bx3_1 w o s
  have Z2 := bx3_2 w o s
  obtain ⟨TH, hTH⟩ : ∃ T, (headO o m).t = T := ⟨_, rfl⟩
  obtain ⟨TT, hTT⟩ : ∃ T, (tailO o m).t = T := ⟨_, rfl⟩
  have eH : headO o m = ⟨1, TH, z0, 0, o.A⟩ := by rw [← hTH]; rfl
  have eT : tailO o m = ⟨1, TT, z0, 0, o.A⟩ := by rw [← hTT]; rfl
  rw [hTH] at hh
  rw [hTT] at ht
  rw [eH, eT]
  obtain ⟨rs, hrs⟩ : ∃ rs, scs o.t.data.toList = rs := ⟨_, rfl⟩
  rw [hrs] at hh ht hv1 hv2 hv3 hm
  simp only [hrs] at c2 c3
  have bh : (⟨(encs (rs.take m)).toArray⟩ : ByteArray) = TH := by rw [← hh]
  have bt : (⟨(encs (rs.drop m)).toArray⟩ : ByteArray) = TT := by rw [← ht]
  obtain ⟨n, hn⟩ : ∃ n, rs.length = n := ⟨_, rfl⟩
  have HN : Hid (rs.length = n ∧ (∀ r ∈ rs, scal r) ∧ (⟨(encs (rs.take m)).toArray⟩ : ByteArray) = TH ∧ (⟨(encs (rs.drop m)).toArray⟩ : ByteArray) = TT) := ⟨hn, hv1, bh, bt⟩
  simp only [hn] at c2 c3
  rw [hn] at hm hv3
  clear hh ht hv1 hv2 hrs hlen hR hS hF hO hTH hTT eH eT bh bt hn
  obtain ⟨k, t, ⟨x, z, u⟩, c, A⟩ := o
  simp only at hk c2 c3 HCC hfs hv3
  subst hk
  obtain ⟨W0, hW0⟩ : ∃ W, W = bx3 w ⟨1, t, (x, z, u), c, A⟩ s := ⟨_, rfl⟩
  have hm1 : ¬ (m : Int) < 1 := by omega
  have hm2 : (m : Int) < (n : Int) := by omega
  have hm3 : ¬ (n : Int) ≤ (m : Int) := by omega
  go_enter Tryz.func102, Tryz.ntmps102
  go_wp2_with fail
  rw [← hW0] at b0 Z0 Z1 Z2
  refine (hW0 ▸ c1 : Calls Tryz.prog 106 #[opV ⟨1, t, (x, z, u), c, A⟩ s] (bx3 w ⟨1, t, (x, z, u), c, A⟩ s) fun r w' => r = .returned (.int .i64 0) ∧ Below W0.heap.size W0 w').mono ?_; rintro r w2 ⟨rfl, h2⟩
  clear hW0 c1
  obtain ⟨p0, p1, p2, p3, p4, p5, p6⟩ := Z0.below h2
  simp only at p0 p1 p2 p3 p4 p5 p6
  go_wp2_with fail
  refine (c2 _).mono ?_; rintro r w3 ⟨rfl, h3⟩
  have h23 := h2.trans (h3.mono h2.size)
  clear p0 p1 p2 p3 p4 p5 p6 h2 h3 c2
  have p1 := (Z0.below h23).d1
  simp only at p1
  go_wp2_with fail
  refine (c3 _).mono ?_; rintro r w4 ⟨v, rfl, ol, ⟨gl, cl, rfl⟩, h4⟩
  have h24 := h23.trans (h4.mono h23.size)
  have Y0 := Z0.below h24
  have Y1 := Z1.1.below h24
  have Y1f := Z1.2.below Z1.1 h24
  have Y2 := Z2.1.below h24
  have Y2f := Z2.2.below Z2.1 h24
  have b4 := b0.trans (h24.mono b0.size)
  have hcl : n ≤ cl := by
    rcases ol.2 with ⟨h, _⟩ | ⟨g', cap, cur, h, _, _, h5, _⟩
    · simp at h
    · simp only [Value.slice.injEq] at h
      obtain ⟨-, -, rfl⟩ := h
      rw [ints_length, HN.out.1] at h5
      exact h5
  have hr : Hid (∀ k (hk : k < rs.length), w4.cell? ⟨gl, k, none⟩ = some (.int .i32 ((rs[k] : Nat) : Int))) := fun k hk => by
    have ol' : w4.ownsRow w3.heap.size 21 1 (.slice (some ⟨gl, 0, none⟩) n cl) n (cells32 (ints rs)) := by have := ol; rwa [Own32, ints_length, HN.out.1] at this
    have := ol'.cells (g := gl) rfl k (.int .i32 ((rs[k] : Nat) : Int)) (by
      unfold cells32 ints
      rw [List.getElem?_map, List.getElem?_map, List.getElem?_eq_getElem hk]
      rfl)
    rwa [Addr.add_lit, Nat.zero_add] at this
  have hs6 := Y0.d6

  have HY : Hid ((BoxO w4 w.heap.size ⟨1, t, (x, z, u), c, A⟩ s) ∧ (BoxO w4 (w.heap.size + 1) opZ nilS ∧ FrO w4 (w.heap.size + 1)) ∧ BoxO w4 (w.heap.size + 1 + 1) opZ nilS ∧ FrO w4 (w.heap.size + 1 + 1)) := ⟨Y0, ⟨Y1, Y1f⟩, Y2, Y2f⟩
  clear p1 h23 h4 c3 Z0 Z1 Z2 h24 b0 ol Y0 Y1 Y1f Y2 Y2f
  have hw4 : w.heap.size < w4.heap.size := lt_of_cell hs6
  have hcn : ¬ cl = m := by omega
  have hmn1 : (m : Int) ≤ (n : Int) := by omega
  have hncI : (n : Int) ≤ (cl : Int) := by omega
  have hmc : m ≤ cl := by omega
  obtain ⟨K, hK⟩ : ∃ K : World → Prop, K = fun W => Below w4.heap.size w4 W := ⟨_, rfl⟩
  have HK : K w4 := by rw [hK]; exact Below.refl _ _
  have Kb : ∀ W W', Below W.heap.size W W' → K W → K W' := fun W W' hb h => by rw [hK] at h ⊢; exact h.trans (hb.mono h.size)
  have Kz : ∀ W, K W → w4.heap.size ≤ W.heap.size := fun W h => by rw [hK] at h; exact h.size
  have Kd : ∀ W, K W → K W.drew := fun W h => Kb _ _ (Below.refl _ _).drew h
  have Ka : ∀ W o, K W → K (W.alloc o) := fun W o h => Kb _ _ ((Below.refl _ _).alloc (Nat.le_refl _) o) h
  have Ks : ∀ W, K W → W.cell? ⟨w.heap.size, 6, none⟩ = some s := fun W h => by rw [hK] at h; exact (h.cell (lt_of_cell hs6)).trans hs6
  have Kl : Hid (∀ W, K W → Below w4.heap.size w4 W) := fun W h => by rw [hK] at h; exact h
  have KS' : ∀ W B (u0 u1 u2 u3 u4 u5 u6 : Value), w4.heap.size ≤ B → K W → K (((((((W.setCell ⟨B, 0, none⟩ u0).setCell ⟨B, 1, none⟩ u1).setCell ⟨B, 2, none⟩ u2).setCell ⟨B, 3, none⟩ u3).setCell ⟨B, 4, none⟩ u4).setCell ⟨B, 5, none⟩ u5).setCell ⟨B, 6, none⟩ u6) := fun W B u0 u1 u2 u3 u4 u5 u6 hB h => by rw [hK] at h ⊢; exact below_set7 h hB _ _ _ _ _ _ _
  have cT : ∀ W, K W → Calls Tryz.prog 121 #[(.slice (some ⟨gl, 0, none⟩) m cl)] W fun e w' => e = .returned (.string TH) ∧ Below W.heap.size W w' := fun W h => by
    rw [hK] at h
    have := ref_text4 (some ⟨gl, 0, none⟩) cl (rs.take m) W (fun k hk => ⟨gl, 0, rfl, ?_⟩) (fun r hr => HN.out.2.1 r (List.mem_of_mem_take hr)) (by have := HN.out.1; simp; omega)
    · rwa [show (rs.take m).length = m by have := HN.out.1; simp; omega, HN.out.2.2.1] at this
    · have hk2 : k < rs.length := by simp at hk; omega
      have := (h.cell (lt_of_cell (hr.out _ hk2))).trans (hr.out _ hk2)
      simpa using this
  have cC : ∀ W, K W → Calls Tryz.prog 128 #[s] W fun r w' => ∃ v', r = .returned v' ∧ OwnA w' W.heap.size v' A ∧ Below W.heap.size W w' := fun W h => by
    rw [hK] at h
    exact HCC.out W (b4.trans (h.mono b4.size))
  clear hK
  go_upto_region 7 with fail
  go_cut [9] (fun x9 wx => ∃ B pN cN, x9 = .pointer (some ⟨B, 0, none⟩) ∧ BoxO wx B ⟨1, TH, z0, 0, A⟩ (.slice pN A.length cN) ∧ OwnA wx w4.heap.size (.slice pN A.length cN) A ∧ w4.heap.size ≤ B ∧ Below w4.heap.size w4 wx)
  case first =>
    have s0 := fun o => Ks _ (Ka w4 o HK)
    have s1 := Ks _ (Kd _ HK)
    have s2 := fun o => Ks _ (Kd _ (Ka w4 o HK))
    have MS : ∀ (u0 u1 u2 u3 u4 u5 u6 : Value), True := fun _ _ _ _ _ _ _ => trivial
    have KS : ∀ (u0 u1 u2 u3 u4 u5 u6 : Value), True := fun _ _ _ _ _ _ _ => trivial
    go_region_held3 (fun w' => w'.cell? ⟨w.heap.size, 6, none⟩ = some s ∧ K w')
      (first | exact ⟨by with_reducible first | assumption | exact (s0 _) | exact (s2 _) | exact AT _ | exact AC _ | exact s1 | exact MS _ _ _ _ _ _ _, by with_reducible first | assumption | exact KAT _ | exact KAC _ | exact Kd _ HK | exact Ka _ _ HK | exact Kd _ (Ka _ _ HK) | exact KS _ _ _ _ _ _ _⟩)
      (first
        | (go_at_call 121; have hbx := HBC; clear hbx; refine (cT (wC) (KC)).mono ?_; rintro r wT ⟨rfl, hT⟩; have KT := Kb _ _ hT (KC); have sT := Ks _ KT; have AT := fun o => Ks _ (Ka wT o KT); have KAT := fun o => Ka wT o KT; have OT : Hid (OwnA wT w4.heap.size (.slice pN A.length cN) A) := owns_below OC.out hT; have HBT := And.intro (BoxO.below HBC.out.1 hT) (And.intro (FrO.below HBC.out.2.1 HBC.out.1 hT) HBC.out.2.2); have HBT : Hid _ := HBT; obtain ⟨z0', z1', z2', z3', z4', z5', z6'⟩ := HBT.out.1; obtain ⟨f0', f1', f2', f3', f4', f5', f6'⟩ := HBT.out.2.1; simp only [z0] at z0' z1' z2' z3' z4' z5' z6'; have KS := fun u0 u1 u2 u3 u4 u5 u6 => KS' wT _ u0 u1 u2 u3 u4 u5 u6 HBT.out.2.2.2 KT; have MS := fun u0 u1 u2 u3 u4 u5 u6 => Ks _ (KS u0 u1 u2 u3 u4 u5 u6))
        | (go_at_call 121; refine (cT (wC.alloc (.cells #[.int .i64 0, .string ⟨#[]⟩, .int .i64 0, .int .i64 0, .string ⟨#[]⟩, .int .i64 0, .slice none 0 0] 33)) (Ka _ _ KC)).mono ?_; rintro r wT ⟨rfl, hT⟩; have KT := Kb _ _ hT (Ka _ _ KC); have sT := Ks _ KT; have AT := fun o => Ks _ (Ka wT o KT); have KAT := fun o => Ka wT o KT; have OT : Hid (OwnA wT w4.heap.size (.slice pN A.length cN) A) := owns_below OC.out (((Below.refl _ _).alloc (Nat.le_refl _) _).trans (hT.mono (by simp))); have HBT : Hid (BoxO wT wC.heap.size opZ nilS ∧ FrO wT wC.heap.size ∧ wC.heap.size ≠ w.heap.size ∧ w4.heap.size ≤ wC.heap.size) := (by have q1 := BoxO.new wC opZ nilS; have q2 := FrO.new wC opZ nilS; exact ⟨q1.below hT, q2.below q1 hT, by have := Kz _ KC; omega, Kz _ KC⟩); obtain ⟨z0', z1', z2', z3', z4', z5', z6'⟩ := HBT.out.1; obtain ⟨f0', f1', f2', f3', f4', f5', f6'⟩ := HBT.out.2.1; simp only [z0] at z0' z1' z2' z3' z4' z5' z6'; have KS := fun u0 u1 u2 u3 u4 u5 u6 => KS' wT _ u0 u1 u2 u3 u4 u5 u6 HBT.out.2.2.2 KT; have MS := fun u0 u1 u2 u3 u4 u5 u6 => Ks _ (KS u0 u1 u2 u3 u4 u5 u6))
        | (go_at_call 121; refine (cT (wC) (KC)).mono ?_; rintro r wT ⟨rfl, hT⟩; have KT := Kb _ _ hT (KC); have sT := Ks _ KT; have AT := fun o => Ks _ (Ka wT o KT); have KAT := fun o => Ka wT o KT; have OT : Hid (OwnA wT w4.heap.size (.slice pN A.length cN) A) := owns_below OC.out hT)
        | (go_at_call 121; refine (cT ((w4.alloc (.cells #[.int .i64 0, .string ⟨#[]⟩, .int .i64 0, .int .i64 0, .string ⟨#[]⟩, .int .i64 0, .slice none 0 0] 33)).drew) (Kd _ (Ka _ _ HK))).mono ?_; rintro r wT ⟨rfl, hT⟩; have KT := Kb _ _ hT (Kd _ (Ka _ _ HK)); have sT := Ks _ KT; have AT := fun o => Ks _ (Ka wT o KT); have KAT := fun o => Ka wT o KT; have HBT : Hid (BoxO wT w4.heap.size opZ nilS ∧ FrO wT w4.heap.size ∧ w4.heap.size ≠ w.heap.size ∧ w4.heap.size ≤ w4.heap.size) := (by have q1 := BoxO.new w4 opZ nilS; have q2 := FrO.new w4 opZ nilS; exact ⟨(q1.drew).below hT, (q2.drew).below (q1.drew) hT, by have := Kz _ HK; omega, Kz _ HK⟩); obtain ⟨z0', z1', z2', z3', z4', z5', z6'⟩ := HBT.out.1; obtain ⟨f0', f1', f2', f3', f4', f5', f6'⟩ := HBT.out.2.1; simp only [z0] at z0' z1' z2' z3' z4' z5' z6'; have KS := fun u0 u1 u2 u3 u4 u5 u6 => KS' wT _ u0 u1 u2 u3 u4 u5 u6 HBT.out.2.2.2 KT; have MS := fun u0 u1 u2 u3 u4 u5 u6 => Ks _ (KS u0 u1 u2 u3 u4 u5 u6))
        | (go_at_call 121; refine (cT (w4.drew) (Kd _ HK)).mono ?_; rintro r wT ⟨rfl, hT⟩; have KT := Kb _ _ hT (Kd _ HK); have sT := Ks _ KT; have AT := fun o => Ks _ (Ka wT o KT); have KAT := fun o => Ka wT o KT)
        | (go_at_call 128; have hbx := HBT; clear hbx; refine (cC (wT) (KT)).mono ?_; rintro r wC ⟨v', rfl, oc, hC⟩; obtain ⟨pN, cN, rfl⟩ := own_slice oc; have KC := Kb _ _ hC (KT); have sC := Ks _ KC; have AC := fun o => Ks _ (Ka wC o KC); have KAC := fun o => Ka wC o KC; have OB : Hid (∀ k, (Value.slice pN A.length cN).ownBlock = some k → k ≠ w4.heap.size) := fun k hk => Nat.ne_of_gt (Nat.lt_of_lt_of_le (lt_of_cell HBT.out.1.d0) (owns_block oc k hk).1); have OC : Hid (OwnA wC w4.heap.size (.slice pN A.length cN) A) := own_weaken oc (Kz _ (KT)); clear oc; have HBC := And.intro (BoxO.below HBT.out.1 hC) (And.intro (FrO.below HBT.out.2.1 HBT.out.1 hC) HBT.out.2.2); have HBC : Hid _ := HBC; obtain ⟨z0', z1', z2', z3', z4', z5', z6'⟩ := HBC.out.1; obtain ⟨f0', f1', f2', f3', f4', f5', f6'⟩ := HBC.out.2.1; simp only [z0] at z0' z1' z2' z3' z4' z5' z6'; have KS := fun u0 u1 u2 u3 u4 u5 u6 => KS' wC _ u0 u1 u2 u3 u4 u5 u6 HBC.out.2.2.2 KC; have MS := fun u0 u1 u2 u3 u4 u5 u6 => Ks _ (KS u0 u1 u2 u3 u4 u5 u6))
        | (go_at_call 128; refine (cC (wT.alloc (.cells #[.int .i64 0, .string ⟨#[]⟩, .int .i64 0, .int .i64 0, .string ⟨#[]⟩, .int .i64 0, .slice none 0 0] 33)) (Ka _ _ KT)).mono ?_; rintro r wC ⟨v', rfl, oc, hC⟩; obtain ⟨pN, cN, rfl⟩ := own_slice oc; have KC := Kb _ _ hC (Ka _ _ KT); have sC := Ks _ KC; have AC := fun o => Ks _ (Ka wC o KC); have KAC := fun o => Ka wC o KC; have OB : Hid (∀ k, (Value.slice pN A.length cN).ownBlock = some k → k ≠ wT.heap.size) := fun k hk => Nat.ne_of_gt (Nat.lt_of_lt_of_le ((by simp)) (owns_block oc k hk).1); have OC : Hid (OwnA wC w4.heap.size (.slice pN A.length cN) A) := own_weaken oc (Kz _ (Ka _ _ KT)); clear oc; have HBC : Hid (BoxO wC wT.heap.size opZ nilS ∧ FrO wC wT.heap.size ∧ wT.heap.size ≠ w.heap.size ∧ w4.heap.size ≤ wT.heap.size) := (by have q1 := BoxO.new wT opZ nilS; have q2 := FrO.new wT opZ nilS; exact ⟨q1.below hC, q2.below q1 hC, by have := Kz _ KT; omega, Kz _ KT⟩); obtain ⟨z0', z1', z2', z3', z4', z5', z6'⟩ := HBC.out.1; obtain ⟨f0', f1', f2', f3', f4', f5', f6'⟩ := HBC.out.2.1; simp only [z0] at z0' z1' z2' z3' z4' z5' z6'; have KS := fun u0 u1 u2 u3 u4 u5 u6 => KS' wC _ u0 u1 u2 u3 u4 u5 u6 HBC.out.2.2.2 KC; have MS := fun u0 u1 u2 u3 u4 u5 u6 => Ks _ (KS u0 u1 u2 u3 u4 u5 u6))
        | (go_at_call 128; refine (cC (wT) (KT)).mono ?_; rintro r wC ⟨v', rfl, oc, hC⟩; obtain ⟨pN, cN, rfl⟩ := own_slice oc; have KC := Kb _ _ hC (KT); have sC := Ks _ KC; have AC := fun o => Ks _ (Ka wC o KC); have KAC := fun o => Ka wC o KC; have OC : Hid (OwnA wC w4.heap.size (.slice pN A.length cN) A) := own_weaken oc (Kz _ (KT)); clear oc)
        | (go_at_call 128; refine (cC ((w4.alloc (.cells #[.int .i64 0, .string ⟨#[]⟩, .int .i64 0, .int .i64 0, .string ⟨#[]⟩, .int .i64 0, .slice none 0 0] 33)).drew) (Kd _ (Ka _ _ HK))).mono ?_; rintro r wC ⟨v', rfl, oc, hC⟩; obtain ⟨pN, cN, rfl⟩ := own_slice oc; have KC := Kb _ _ hC (Kd _ (Ka _ _ HK)); have sC := Ks _ KC; have AC := fun o => Ks _ (Ka wC o KC); have KAC := fun o => Ka wC o KC; have OB : Hid (∀ k, (Value.slice pN A.length cN).ownBlock = some k → k ≠ w4.heap.size) := fun k hk => Nat.ne_of_gt (Nat.lt_of_lt_of_le ((by simp)) (owns_block oc k hk).1); have OC : Hid (OwnA wC w4.heap.size (.slice pN A.length cN) A) := own_weaken oc (Kz _ (Kd _ (Ka _ _ HK))); clear oc; have HBC : Hid (BoxO wC w4.heap.size opZ nilS ∧ FrO wC w4.heap.size ∧ w4.heap.size ≠ w.heap.size ∧ w4.heap.size ≤ w4.heap.size) := (by have q1 := BoxO.new w4 opZ nilS; have q2 := FrO.new w4 opZ nilS; exact ⟨(q1.drew).below hC, (q2.drew).below (q1.drew) hC, by have := Kz _ HK; omega, Kz _ HK⟩); obtain ⟨z0', z1', z2', z3', z4', z5', z6'⟩ := HBC.out.1; obtain ⟨f0', f1', f2', f3', f4', f5', f6'⟩ := HBC.out.2.1; simp only [z0] at z0' z1' z2' z3' z4' z5' z6'; have KS := fun u0 u1 u2 u3 u4 u5 u6 => KS' wC _ u0 u1 u2 u3 u4 u5 u6 HBC.out.2.2.2 KC; have MS := fun u0 u1 u2 u3 u4 u5 u6 => Ks _ (KS u0 u1 u2 u3 u4 u5 u6))
        | (go_at_call 128; refine (cC (w4.drew) (Kd _ HK)).mono ?_; rintro r wC ⟨v', rfl, oc, hC⟩; obtain ⟨pN, cN, rfl⟩ := own_slice oc; have KC := Kb _ _ hC (Kd _ HK); have sC := Ks _ KC; have AC := fun o => Ks _ (Ka wC o KC); have KAC := fun o => Ka wC o KC; have OC : Hid (OwnA wC w4.heap.size (.slice pN A.length cN) A) := own_weaken oc (Kz _ (Kd _ HK)); clear oc))
    all_goals (go_wp2_with fail)
    all_goals go_meet
    · exact ⟨wC.heap.size, pN, cN, rfl, BoxO.new wC ⟨1, TH, z0, 0, A⟩ _, owns_below OC.out ((Below.refl _ _).alloc (Nat.le_refl _) _), Kz _ KC, Kl.out _ (KAC _)⟩
    · exact ⟨wT.heap.size, pN, cN, rfl, HBC.out.1.stored ⟨1, TH, z0, 0, A⟩ _, owns_same OC.out (fun k hk => heap_set7 _ (OB.out k hk) _ _ _ _ _ _ _), HBC.out.2.2.2, Kl.out _ (KS _ _ _ _ _ _ _)⟩
    · exact ⟨w4.heap.size, pN, cN, rfl, HBC.out.1.stored ⟨1, TH, z0, 0, A⟩ _, owns_same OC.out (fun k hk => heap_set7 _ (OB.out k hk) _ _ _ _ _ _ _), HBC.out.2.2.2, Kl.out _ (KS _ _ _ _ _ _ _)⟩
  case rest =>
    obtain ⟨B9, p9, c9, rfl, X9, O9, hB9, b49⟩ := hcut
    have bc : Below w.heap.size w wc := b4.trans (b49.mono b4.size)
    have hs6' : wc.cell? ⟨w.heap.size, 6, none⟩ = some s := (b49.cell (lt_of_cell hs6)).trans hs6
    have hr' : Hid (∀ k (hk : k < rs.length), wc.cell? ⟨gl, k, none⟩ = some (.int .i32 ((rs[k] : Nat) : Int))) := fun k hk => (b49.cell (lt_of_cell (hr.out k hk))).trans (hr.out k hk)
    have HY' : Hid (((BoxO wc (w.heap.size + 1) opZ nilS ∧ FrO wc (w.heap.size + 1)) ∧ BoxO wc (w.heap.size + 1 + 1) opZ nilS ∧ FrO wc (w.heap.size + 1 + 1)) ∧ BoxO wc B9 ⟨1, TH, z0, 0, A⟩ (.slice p9 A.length c9) ∧ OwnA wc w4.heap.size (.slice p9 A.length c9) A) := ⟨⟨⟨HY.out.2.1.1.below b49, HY.out.2.1.2.below HY.out.2.1.1 b49⟩, HY.out.2.2.1.below b49, HY.out.2.2.2.below HY.out.2.2.1 b49⟩, X9, O9⟩
    have hz5 : w4.heap.size ≤ wc.heap.size := b49.size
    have hz45 : w.heap.size + 1 + 1 < w4.heap.size := lt_of_cell HY.out.2.2.1.d0
    have hB9' : w.heap.size + 1 + 1 < B9 := Nat.lt_of_lt_of_le (lt_of_cell HY.out.2.2.1.d0) hB9
    have hwc : w.heap.size < wc.heap.size := lt_of_cell hs6'
    clear HK Kb Kz Kd Ka Ks Kl KS' cT cC K X9 O9 hB9 b49 hr HY hs6 hw4 b4
    obtain ⟨K, hK⟩ : ∃ K : World → Prop, K = fun W => Below wc.heap.size wc W := ⟨_, rfl⟩
    have HK : K wc := by rw [hK]; exact Below.refl _ _
    have Kb : ∀ W W', Below W.heap.size W W' → K W → K W' := fun W W' hb h => by rw [hK] at h ⊢; exact h.trans (hb.mono h.size)
    have Kz : ∀ W, K W → wc.heap.size ≤ W.heap.size := fun W h => by rw [hK] at h; exact h.size
    have Kd : ∀ W, K W → K W.drew := fun W h => Kb _ _ (Below.refl _ _).drew h
    have Ka : ∀ W o, K W → K (W.alloc o) := fun W o h => Kb _ _ ((Below.refl _ _).alloc (Nat.le_refl _) o) h
    have Ks : ∀ W, K W → W.cell? ⟨w.heap.size, 6, none⟩ = some s := fun W h => by rw [hK] at h; exact (h.cell (lt_of_cell hs6')).trans hs6'
    have Kl : Hid (∀ W, K W → Below wc.heap.size wc W) := fun W h => by rw [hK] at h; exact h
    have KS' : ∀ W B (u0 u1 u2 u3 u4 u5 u6 : Value), wc.heap.size ≤ B → K W → K (((((((W.setCell ⟨B, 0, none⟩ u0).setCell ⟨B, 1, none⟩ u1).setCell ⟨B, 2, none⟩ u2).setCell ⟨B, 3, none⟩ u3).setCell ⟨B, 4, none⟩ u4).setCell ⟨B, 5, none⟩ u5).setCell ⟨B, 6, none⟩ u6) := fun W B u0 u1 u2 u3 u4 u5 u6 hB h => by rw [hK] at h ⊢; exact below_set7 h hB _ _ _ _ _ _ _
    have cT : ∀ W, K W → Calls Tryz.prog 121 #[(.slice (some ⟨gl, m, none⟩) (n - m) (cl - m))] W fun e w' => e = .returned (.string TT) ∧ Below W.heap.size W w' := fun W h => by
      rw [hK] at h
      have := ref_text4 (some ⟨gl, m, none⟩) (cl - m) (rs.drop m) W (fun k hk => ⟨gl, m, rfl, ?_⟩) (fun r hrr => HN.out.2.1 r (List.mem_of_mem_drop hrr)) (by have := HN.out.1; simp; omega)
      · rwa [show (rs.drop m).length = n - m by have := HN.out.1; simp; omega, HN.out.2.2.2] at this
      · have hk2 : m + k < rs.length := by simp at hk; omega
        have := (h.cell (lt_of_cell (hr'.out _ hk2))).trans (hr'.out _ hk2)
        simpa using this
    have cC : ∀ W, K W → Calls Tryz.prog 128 #[s] W fun r w' => ∃ v', r = .returned v' ∧ OwnA w' W.heap.size v' A ∧ Below W.heap.size W w' := fun W h => by
      rw [hK] at h
      exact HCC.out W (bc.trans (h.mono bc.size))
    clear hK
    go_upto_region 8 with fail
    go_cut [10] (fun x10 wx => ∃ B pN cN, x10 = .pointer (some ⟨B, 0, none⟩) ∧ BoxO wx B ⟨1, TT, z0, 0, A⟩ (.slice pN A.length cN) ∧ OwnA wx wc.heap.size (.slice pN A.length cN) A ∧ wc.heap.size ≤ B ∧ Below wc.heap.size wc wx)
    case first =>
      have s0 := fun o => Ks _ (Ka wc o HK)
      have s1 := Ks _ (Kd _ HK)
      have s2 := fun o => Ks _ (Kd _ (Ka wc o HK))
      have MS : ∀ (u0 u1 u2 u3 u4 u5 u6 : Value), True := fun _ _ _ _ _ _ _ => trivial
      have KS : ∀ (u0 u1 u2 u3 u4 u5 u6 : Value), True := fun _ _ _ _ _ _ _ => trivial
      go_region_held3 (fun w' => w'.cell? ⟨w.heap.size, 6, none⟩ = some s ∧ K w')
        (first | exact ⟨by with_reducible first | assumption | exact (s0 _) | exact (s2 _) | exact AT _ | exact AC _ | exact s1 | exact MS _ _ _ _ _ _ _, by with_reducible first | assumption | exact KAT _ | exact KAC _ | exact Kd _ HK | exact Ka _ _ HK | exact Kd _ (Ka _ _ HK) | exact KS _ _ _ _ _ _ _⟩)
        (first
          | (go_at_call 121; have hbx := HBC; clear hbx; refine (cT (wC) (KC)).mono ?_; rintro r wT ⟨rfl, hT⟩; have KT := Kb _ _ hT (KC); have sT := Ks _ KT; have AT := fun o => Ks _ (Ka wT o KT); have KAT := fun o => Ka wT o KT; have OT : Hid (OwnA wT wc.heap.size (.slice pN A.length cN) A) := owns_below OC.out hT; have HBT := And.intro (BoxO.below HBC.out.1 hT) (And.intro (FrO.below HBC.out.2.1 HBC.out.1 hT) HBC.out.2.2); have HBT : Hid _ := HBT; obtain ⟨z0', z1', z2', z3', z4', z5', z6'⟩ := HBT.out.1; obtain ⟨f0', f1', f2', f3', f4', f5', f6'⟩ := HBT.out.2.1; simp only [z0] at z0' z1' z2' z3' z4' z5' z6'; have KS := fun u0 u1 u2 u3 u4 u5 u6 => KS' wT _ u0 u1 u2 u3 u4 u5 u6 HBT.out.2.2.2 KT; have MS := fun u0 u1 u2 u3 u4 u5 u6 => Ks _ (KS u0 u1 u2 u3 u4 u5 u6))
          | (go_at_call 121; refine (cT (wC.alloc (.cells #[.int .i64 0, .string ⟨#[]⟩, .int .i64 0, .int .i64 0, .string ⟨#[]⟩, .int .i64 0, .slice none 0 0] 33)) (Ka _ _ KC)).mono ?_; rintro r wT ⟨rfl, hT⟩; have KT := Kb _ _ hT (Ka _ _ KC); have sT := Ks _ KT; have AT := fun o => Ks _ (Ka wT o KT); have KAT := fun o => Ka wT o KT; have OT : Hid (OwnA wT wc.heap.size (.slice pN A.length cN) A) := owns_below OC.out (((Below.refl _ _).alloc (Nat.le_refl _) _).trans (hT.mono (by simp))); have HBT : Hid (BoxO wT wC.heap.size opZ nilS ∧ FrO wT wC.heap.size ∧ wC.heap.size ≠ w.heap.size ∧ wc.heap.size ≤ wC.heap.size) := (by have q1 := BoxO.new wC opZ nilS; have q2 := FrO.new wC opZ nilS; exact ⟨q1.below hT, q2.below q1 hT, by have := Kz _ KC; omega, Kz _ KC⟩); obtain ⟨z0', z1', z2', z3', z4', z5', z6'⟩ := HBT.out.1; obtain ⟨f0', f1', f2', f3', f4', f5', f6'⟩ := HBT.out.2.1; simp only [z0] at z0' z1' z2' z3' z4' z5' z6'; have KS := fun u0 u1 u2 u3 u4 u5 u6 => KS' wT _ u0 u1 u2 u3 u4 u5 u6 HBT.out.2.2.2 KT; have MS := fun u0 u1 u2 u3 u4 u5 u6 => Ks _ (KS u0 u1 u2 u3 u4 u5 u6))
          | (go_at_call 121; refine (cT (wC) (KC)).mono ?_; rintro r wT ⟨rfl, hT⟩; have KT := Kb _ _ hT (KC); have sT := Ks _ KT; have AT := fun o => Ks _ (Ka wT o KT); have KAT := fun o => Ka wT o KT; have OT : Hid (OwnA wT wc.heap.size (.slice pN A.length cN) A) := owns_below OC.out hT)
          | (go_at_call 121; refine (cT ((wc.alloc (.cells #[.int .i64 0, .string ⟨#[]⟩, .int .i64 0, .int .i64 0, .string ⟨#[]⟩, .int .i64 0, .slice none 0 0] 33)).drew) (Kd _ (Ka _ _ HK))).mono ?_; rintro r wT ⟨rfl, hT⟩; have KT := Kb _ _ hT (Kd _ (Ka _ _ HK)); have sT := Ks _ KT; have AT := fun o => Ks _ (Ka wT o KT); have KAT := fun o => Ka wT o KT; have HBT : Hid (BoxO wT wc.heap.size opZ nilS ∧ FrO wT wc.heap.size ∧ wc.heap.size ≠ w.heap.size ∧ wc.heap.size ≤ wc.heap.size) := (by have q1 := BoxO.new wc opZ nilS; have q2 := FrO.new wc opZ nilS; exact ⟨(q1.drew).below hT, (q2.drew).below (q1.drew) hT, by have := Kz _ HK; omega, Kz _ HK⟩); obtain ⟨z0', z1', z2', z3', z4', z5', z6'⟩ := HBT.out.1; obtain ⟨f0', f1', f2', f3', f4', f5', f6'⟩ := HBT.out.2.1; simp only [z0] at z0' z1' z2' z3' z4' z5' z6'; have KS := fun u0 u1 u2 u3 u4 u5 u6 => KS' wT _ u0 u1 u2 u3 u4 u5 u6 HBT.out.2.2.2 KT; have MS := fun u0 u1 u2 u3 u4 u5 u6 => Ks _ (KS u0 u1 u2 u3 u4 u5 u6))
          | (go_at_call 121; refine (cT (wc.drew) (Kd _ HK)).mono ?_; rintro r wT ⟨rfl, hT⟩; have KT := Kb _ _ hT (Kd _ HK); have sT := Ks _ KT; have AT := fun o => Ks _ (Ka wT o KT); have KAT := fun o => Ka wT o KT)
          | (go_at_call 128; have hbx := HBT; clear hbx; refine (cC (wT) (KT)).mono ?_; rintro r wC ⟨v', rfl, oc, hC⟩; obtain ⟨pN, cN, rfl⟩ := own_slice oc; have KC := Kb _ _ hC (KT); have sC := Ks _ KC; have AC := fun o => Ks _ (Ka wC o KC); have KAC := fun o => Ka wC o KC; have OB : Hid (∀ k, (Value.slice pN A.length cN).ownBlock = some k → k ≠ wc.heap.size) := fun k hk => Nat.ne_of_gt (Nat.lt_of_lt_of_le (lt_of_cell HBT.out.1.d0) (owns_block oc k hk).1); have OC : Hid (OwnA wC wc.heap.size (.slice pN A.length cN) A) := own_weaken oc (Kz _ (KT)); clear oc; have HBC := And.intro (BoxO.below HBT.out.1 hC) (And.intro (FrO.below HBT.out.2.1 HBT.out.1 hC) HBT.out.2.2); have HBC : Hid _ := HBC; obtain ⟨z0', z1', z2', z3', z4', z5', z6'⟩ := HBC.out.1; obtain ⟨f0', f1', f2', f3', f4', f5', f6'⟩ := HBC.out.2.1; simp only [z0] at z0' z1' z2' z3' z4' z5' z6'; have KS := fun u0 u1 u2 u3 u4 u5 u6 => KS' wC _ u0 u1 u2 u3 u4 u5 u6 HBC.out.2.2.2 KC; have MS := fun u0 u1 u2 u3 u4 u5 u6 => Ks _ (KS u0 u1 u2 u3 u4 u5 u6))
          | (go_at_call 128; refine (cC (wT.alloc (.cells #[.int .i64 0, .string ⟨#[]⟩, .int .i64 0, .int .i64 0, .string ⟨#[]⟩, .int .i64 0, .slice none 0 0] 33)) (Ka _ _ KT)).mono ?_; rintro r wC ⟨v', rfl, oc, hC⟩; obtain ⟨pN, cN, rfl⟩ := own_slice oc; have KC := Kb _ _ hC (Ka _ _ KT); have sC := Ks _ KC; have AC := fun o => Ks _ (Ka wC o KC); have KAC := fun o => Ka wC o KC; have OB : Hid (∀ k, (Value.slice pN A.length cN).ownBlock = some k → k ≠ wT.heap.size) := fun k hk => Nat.ne_of_gt (Nat.lt_of_lt_of_le ((by simp)) (owns_block oc k hk).1); have OC : Hid (OwnA wC wc.heap.size (.slice pN A.length cN) A) := own_weaken oc (Kz _ (Ka _ _ KT)); clear oc; have HBC : Hid (BoxO wC wT.heap.size opZ nilS ∧ FrO wC wT.heap.size ∧ wT.heap.size ≠ w.heap.size ∧ wc.heap.size ≤ wT.heap.size) := (by have q1 := BoxO.new wT opZ nilS; have q2 := FrO.new wT opZ nilS; exact ⟨q1.below hC, q2.below q1 hC, by have := Kz _ KT; omega, Kz _ KT⟩); obtain ⟨z0', z1', z2', z3', z4', z5', z6'⟩ := HBC.out.1; obtain ⟨f0', f1', f2', f3', f4', f5', f6'⟩ := HBC.out.2.1; simp only [z0] at z0' z1' z2' z3' z4' z5' z6'; have KS := fun u0 u1 u2 u3 u4 u5 u6 => KS' wC _ u0 u1 u2 u3 u4 u5 u6 HBC.out.2.2.2 KC; have MS := fun u0 u1 u2 u3 u4 u5 u6 => Ks _ (KS u0 u1 u2 u3 u4 u5 u6))
          | (go_at_call 128; refine (cC (wT) (KT)).mono ?_; rintro r wC ⟨v', rfl, oc, hC⟩; obtain ⟨pN, cN, rfl⟩ := own_slice oc; have KC := Kb _ _ hC (KT); have sC := Ks _ KC; have AC := fun o => Ks _ (Ka wC o KC); have KAC := fun o => Ka wC o KC; have OC : Hid (OwnA wC wc.heap.size (.slice pN A.length cN) A) := own_weaken oc (Kz _ (KT)); clear oc)
          | (go_at_call 128; refine (cC ((wc.alloc (.cells #[.int .i64 0, .string ⟨#[]⟩, .int .i64 0, .int .i64 0, .string ⟨#[]⟩, .int .i64 0, .slice none 0 0] 33)).drew) (Kd _ (Ka _ _ HK))).mono ?_; rintro r wC ⟨v', rfl, oc, hC⟩; obtain ⟨pN, cN, rfl⟩ := own_slice oc; have KC := Kb _ _ hC (Kd _ (Ka _ _ HK)); have sC := Ks _ KC; have AC := fun o => Ks _ (Ka wC o KC); have KAC := fun o => Ka wC o KC; have OB : Hid (∀ k, (Value.slice pN A.length cN).ownBlock = some k → k ≠ wc.heap.size) := fun k hk => Nat.ne_of_gt (Nat.lt_of_lt_of_le ((by simp)) (owns_block oc k hk).1); have OC : Hid (OwnA wC wc.heap.size (.slice pN A.length cN) A) := own_weaken oc (Kz _ (Kd _ (Ka _ _ HK))); clear oc; have HBC : Hid (BoxO wC wc.heap.size opZ nilS ∧ FrO wC wc.heap.size ∧ wc.heap.size ≠ w.heap.size ∧ wc.heap.size ≤ wc.heap.size) := (by have q1 := BoxO.new wc opZ nilS; have q2 := FrO.new wc opZ nilS; exact ⟨(q1.drew).below hC, (q2.drew).below (q1.drew) hC, by have := Kz _ HK; omega, Kz _ HK⟩); obtain ⟨z0', z1', z2', z3', z4', z5', z6'⟩ := HBC.out.1; obtain ⟨f0', f1', f2', f3', f4', f5', f6'⟩ := HBC.out.2.1; simp only [z0] at z0' z1' z2' z3' z4' z5' z6'; have KS := fun u0 u1 u2 u3 u4 u5 u6 => KS' wC _ u0 u1 u2 u3 u4 u5 u6 HBC.out.2.2.2 KC; have MS := fun u0 u1 u2 u3 u4 u5 u6 => Ks _ (KS u0 u1 u2 u3 u4 u5 u6))
          | (go_at_call 128; refine (cC (wc.drew) (Kd _ HK)).mono ?_; rintro r wC ⟨v', rfl, oc, hC⟩; obtain ⟨pN, cN, rfl⟩ := own_slice oc; have KC := Kb _ _ hC (Kd _ HK); have sC := Ks _ KC; have AC := fun o => Ks _ (Ka wC o KC); have KAC := fun o => Ka wC o KC; have OC : Hid (OwnA wC wc.heap.size (.slice pN A.length cN) A) := own_weaken oc (Kz _ (Kd _ HK)); clear oc))
      all_goals (go_wp2_with fail)
      all_goals go_meet
      · exact ⟨wC.heap.size, pN, cN, rfl, BoxO.new wC ⟨1, TT, z0, 0, A⟩ _, owns_below OC.out ((Below.refl _ _).alloc (Nat.le_refl _) _), Kz _ KC, Kl.out _ (KAC _)⟩
      · exact ⟨wT.heap.size, pN, cN, rfl, HBC.out.1.stored ⟨1, TT, z0, 0, A⟩ _, owns_same OC.out (fun k hk => heap_set7 _ (OB.out k hk) _ _ _ _ _ _ _), HBC.out.2.2.2, Kl.out _ (KS _ _ _ _ _ _ _)⟩
      · exact ⟨wc.heap.size, pN, cN, rfl, HBC.out.1.stored ⟨1, TT, z0, 0, A⟩ _, owns_same OC.out (fun k hk => heap_set7 _ (OB.out k hk) _ _ _ _ _ _ _), HBC.out.2.2.2, Kl.out _ (KS _ _ _ _ _ _ _)⟩
    case rest =>
      obtain ⟨B10, p10, c10, rfl, X10, O10, hB10, b50⟩ := hcut
      obtain ⟨x0, x1, x2, x3, x4, x5, x6⟩ := HY'.out.2.1.below b50
      obtain ⟨y0, y1, y2, y3, y4, y5, y6⟩ := X10
      obtain ⟨p0, p1, p2, p3, p4, p5, p6⟩ := HY'.out.1.1.1.below b50
      obtain ⟨g0, g1, g2, g3, g4, g5, g6⟩ := HY'.out.1.1.2.below HY'.out.1.1.1 b50
      obtain ⟨q0, q1, q2, q3, q4, q5, q6⟩ := HY'.out.1.2.1.below b50
      obtain ⟨h0, h1', h2, h3, h4, h5, h6⟩ := HY'.out.1.2.2.below HY'.out.1.2.1 b50
      have l10 : w.heap.size + 1 + 1 < B10 := Nat.lt_of_lt_of_le (lt_of_cell HY'.out.1.2.1.d0) hB10
      have HO : Hid (OwnA wc w4.heap.size (.slice p9 A.length c9) A ∧ OwnA wc w4.heap.size (.slice p10 A.length c10) A) := ⟨owns_below HY'.out.2.2 b50, own_weaken O10 hz5⟩
      have bF : Below w.heap.size w wc := bc.trans (b50.mono bc.size)
      have hz0 : w.heap.size ≤ w4.heap.size := by omega
      simp only [z0] at x0 x1 x2 x3 x4 x5 x6 y0 y1 y2 y3 y4 y5 y6 p0 p1 p2 p3 p4 p5 p6 q0 q1 q2 q3 q4 q5 q6
      clear HY' HK Kb Kz Kd Ka Ks Kl KS' cT cC K O10 hB10 b50 bc hs6' hwc hr' hz5
      have n1 : B9 ≠ w.heap.size + 1 := by omega
      have n2 : B9 ≠ w.heap.size + 1 + 1 := by omega
      have n3 : B10 ≠ w.heap.size + 1 := by omega
      have n4 : B10 ≠ w.heap.size + 1 + 1 := by omega
      have n5 : w.heap.size + 1 + 1 ≠ w.heap.size + 1 := by omega
      have hs1 : w.heap.size ≤ w.heap.size + 1 := by omega
      have hs2 : w.heap.size ≤ w.heap.size + 1 + 1 := by omega
      have HUc : Hid (∀ W : World, (∀ i, W.cell? ⟨B9, i, none⟩ = wc.cell? ⟨B9, i, none⟩) → (∀ i, W.cell? ⟨B10, i, none⟩ = wc.cell? ⟨B10, i, none⟩) → (W.cell? ⟨B9, 0, none⟩ = some (.int .i64 1) ∧ W.cell? ⟨B9, 1, none⟩ = some (.string TH) ∧ W.cell? ⟨B9, 2, none⟩ = some (.int .i64 0) ∧ W.cell? ⟨B9, 3, none⟩ = some (.int .i64 0) ∧ W.cell? ⟨B9, 4, none⟩ = some (.string ⟨#[]⟩) ∧ W.cell? ⟨B9, 5, none⟩ = some (.int .i64 0) ∧ W.cell? ⟨B9, 6, none⟩ = some (.slice p9 A.length c9) ∧ W.cell? ⟨B10, 0, none⟩ = some (.int .i64 1) ∧ W.cell? ⟨B10, 1, none⟩ = some (.string TT) ∧ W.cell? ⟨B10, 2, none⟩ = some (.int .i64 0) ∧ W.cell? ⟨B10, 3, none⟩ = some (.int .i64 0) ∧ W.cell? ⟨B10, 4, none⟩ = some (.string ⟨#[]⟩) ∧ W.cell? ⟨B10, 5, none⟩ = some (.int .i64 0) ∧ W.cell? ⟨B10, 6, none⟩ = some (.slice p10 A.length c10))) := fun W a b => ⟨(a _).trans x0, (a _).trans x1, (a _).trans x2, (a _).trans x3, (a _).trans x4, (a _).trans x5, (a _).trans x6, (b _).trans y0, (b _).trans y1, (b _).trans y2, (b _).trans y3, (b _).trans y4, (b _).trans y5, (b _).trans y6⟩
      have M0 := HUc.out wc.drew (fun _ => rfl) (fun _ => rfl)
      have M1 := fun u0 u1 u2 u3 u4 u5 u6 => HUc.out (((((((wc.setCell ⟨w.heap.size + 1, 0, none⟩ u0).setCell ⟨w.heap.size + 1, 1, none⟩ u1).setCell ⟨w.heap.size + 1, 2, none⟩ u2).setCell ⟨w.heap.size + 1, 3, none⟩ u3).setCell ⟨w.heap.size + 1, 4, none⟩ u4).setCell ⟨w.heap.size + 1, 5, none⟩ u5).setCell ⟨w.heap.size + 1, 6, none⟩ u6).drew (fun i => (cell_drew' _ _).trans (cell_set7 (B := w.heap.size + 1) (j := i) wc n1 u0 u1 u2 u3 u4 u5 u6)) (fun i => (cell_drew' _ _).trans (cell_set7 (B := w.heap.size + 1) (j := i) wc n3 u0 u1 u2 u3 u4 u5 u6))
      have M2 := fun v0 v1 v2 v3 v4 v5 v6 u0 u1 u2 u3 u4 u5 u6 => HUc.out ((((((((((((((wc.setCell ⟨w.heap.size + 1, 0, none⟩ v0).setCell ⟨w.heap.size + 1, 1, none⟩ v1).setCell ⟨w.heap.size + 1, 2, none⟩ v2).setCell ⟨w.heap.size + 1, 3, none⟩ v3).setCell ⟨w.heap.size + 1, 4, none⟩ v4).setCell ⟨w.heap.size + 1, 5, none⟩ v5).setCell ⟨w.heap.size + 1, 6, none⟩ v6).setCell ⟨w.heap.size + 1 + 1, 0, none⟩ u0).setCell ⟨w.heap.size + 1 + 1, 1, none⟩ u1).setCell ⟨w.heap.size + 1 + 1, 2, none⟩ u2).setCell ⟨w.heap.size + 1 + 1, 3, none⟩ u3).setCell ⟨w.heap.size + 1 + 1, 4, none⟩ u4).setCell ⟨w.heap.size + 1 + 1, 5, none⟩ u5).setCell ⟨w.heap.size + 1 + 1, 6, none⟩ u6).drew (fun i => (cell_drew' _ _).trans <| (cell_set7 (B := w.heap.size + 1 + 1) (j := i) _ n2 u0 u1 u2 u3 u4 u5 u6).trans (cell_set7 (B := w.heap.size + 1) (j := i) wc n1 v0 v1 v2 v3 v4 v5 v6)) (fun i => (cell_drew' _ _).trans <| (cell_set7 (B := w.heap.size + 1 + 1) (j := i) _ n4 u0 u1 u2 u3 u4 u5 u6).trans (cell_set7 (B := w.heap.size + 1) (j := i) wc n3 v0 v1 v2 v3 v4 v5 v6))
      have B0 := bF.drew
      have B1 := fun u0 u1 u2 u3 u4 u5 u6 => (below_set7 (B := w.heap.size + 1) bF hs1 u0 u1 u2 u3 u4 u5 u6).drew
      have B2 := fun v0 v1 v2 v3 v4 v5 v6 u0 u1 u2 u3 u4 u5 u6 => (below_set7 (B := w.heap.size + 1 + 1) (below_set7 (B := w.heap.size + 1) bF hs1 v0 v1 v2 v3 v4 v5 v6) hs2 u0 u1 u2 u3 u4 u5 u6).drew
      go_wp2_with fail
      go_region_held3 (fun w' => (w'.cell? ⟨B9, 0, none⟩ = some (.int .i64 1) ∧ w'.cell? ⟨B9, 1, none⟩ = some (.string TH) ∧ w'.cell? ⟨B9, 2, none⟩ = some (.int .i64 0) ∧ w'.cell? ⟨B9, 3, none⟩ = some (.int .i64 0) ∧ w'.cell? ⟨B9, 4, none⟩ = some (.string ⟨#[]⟩) ∧ w'.cell? ⟨B9, 5, none⟩ = some (.int .i64 0) ∧ w'.cell? ⟨B9, 6, none⟩ = some (.slice p9 A.length c9) ∧ w'.cell? ⟨B10, 0, none⟩ = some (.int .i64 1) ∧ w'.cell? ⟨B10, 1, none⟩ = some (.string TT) ∧ w'.cell? ⟨B10, 2, none⟩ = some (.int .i64 0) ∧ w'.cell? ⟨B10, 3, none⟩ = some (.int .i64 0) ∧ w'.cell? ⟨B10, 4, none⟩ = some (.string ⟨#[]⟩) ∧ w'.cell? ⟨B10, 5, none⟩ = some (.int .i64 0) ∧ w'.cell? ⟨B10, 6, none⟩ = some (.slice p10 A.length c10)) ∧ Below w.heap.size w w')
        (first | exact ⟨by with_reducible first | assumption | exact M0 | exact M1 _ _ _ _ _ _ _ | exact M2 _ _ _ _ _ _ _ _ _ _ _ _ _ _, by with_reducible first | assumption | exact B0 | exact B1 _ _ _ _ _ _ _ | exact B2 _ _ _ _ _ _ _ _ _ _ _ _ _ _⟩)
        (first | (go_at_call 128; fail))
      have same : ∀ (v0 v1 v2 v3 v4 v5 v6 u0 u1 u2 u3 u4 u5 u6 : Value) (v : Value) (hv : OwnA wc w4.heap.size v A), OwnA ((((((((((((((wc.setCell ⟨w.heap.size + 1, 0, none⟩ v0).setCell ⟨w.heap.size + 1, 1, none⟩ v1).setCell ⟨w.heap.size + 1, 2, none⟩ v2).setCell ⟨w.heap.size + 1, 3, none⟩ v3).setCell ⟨w.heap.size + 1, 4, none⟩ v4).setCell ⟨w.heap.size + 1, 5, none⟩ v5).setCell ⟨w.heap.size + 1, 6, none⟩ v6).setCell ⟨w.heap.size + 1 + 1, 0, none⟩ u0).setCell ⟨w.heap.size + 1 + 1, 1, none⟩ u1).setCell ⟨w.heap.size + 1 + 1, 2, none⟩ u2).setCell ⟨w.heap.size + 1 + 1, 3, none⟩ u3).setCell ⟨w.heap.size + 1 + 1, 4, none⟩ u4).setCell ⟨w.heap.size + 1 + 1, 5, none⟩ u5).setCell ⟨w.heap.size + 1 + 1, 6, none⟩ u6).drew w.heap.size v A := fun v0 v1 v2 v3 v4 v5 v6 u0 u1 u2 u3 u4 u5 u6 v hv =>
        own_weaken (owns_same hv fun k hk => by
          have := (owns_block hv k hk).1
          exact (heap_drew' _ _).trans ((heap_set7 _ (by omega) _ _ _ _ _ _ _).trans (heap_set7 _ (by omega) _ _ _ _ _ _ _))) hz0
      clear M0 M1 M2 B0 B1 HUc
      go_wp2
      exact bodyPost_ret (v := .tuple #[opV ⟨1, TH, z0, 0, []⟩ (.slice p9 A.length c9), opV ⟨1, TT, z0, 0, []⟩ (.slice p10 A.length c10), .int .i64 0]) (by simp [results, Tryz.results102, go_sem, z0, p0, p1, p2, p3, p4, p5, p6, q0, q1, q2, q3, q4, q5, q6]) rfl
        ⟨_, _, rfl, same _ _ _ _ _ _ _ _ _ _ _ _ _ _ _ HO.out.1, same _ _ _ _ _ _ _ _ _ _ _ _ _ _ _ HO.out.2, B2 _ _ _ _ _ _ _ _ _ _ _ _ _ _⟩
end Go.Proofs.YtalfdjglbbmjcaaGreatDoor

/- The document's Slice of layer 8. -/
namespace Go.Proofs.YtalfdjglbbmjcaaGreatDoor
open Go Go.RowKit Go.Lib
set_option linter.unusedVariables false

/-- Operations laid in a row, their lists read at w0 or the call's own. -/
def ReS (B : Nat) (w0 w : World) (D : List OV) (P : List Op5) : Prop := All2 (fun (d : OV) (e : Op5) => d.1 = e.k ∧ d.2.1 = e.t ∧ d.2.2.1 = e.v ∧ d.2.2.2.1 = e.c ∧ (RN w0 (slV d.2.2.2.2) e.A ∨ OwnA w B (slV d.2.2.2.2) e.A)) D P
theorem ReS.keep {B : Nat} {w0 w w' : World} {D : List OV} {P : List Op5} (h : ReS B w0 w D P) (k : KeepA w w') : ReS B w0 w' D P := All2.imp (fun d e h => ⟨h.1, h.2.1, h.2.2.1, h.2.2.2.1, h.2.2.2.2.imp id fun o => keepA_own o k⟩) h
theorem ReS.snoc {B : Nat} {w0 w : World} {D : List OV} {P : List Op5} {d : OV} {e : Op5} (h : ReS B w0 w D P) (r : d.1 = e.k ∧ d.2.1 = e.t ∧ d.2.2.1 = e.v ∧ d.2.2.2.1 = e.c ∧ (RN w0 (slV d.2.2.2.2) e.A ∨ OwnA w B (slV d.2.2.2.2) e.A)) : ReS B w0 w (D ++ [d]) (P ++ [e]) := forall2_append h (.cons r .nil)
theorem ReS.re {B : Nat} {w0 w : World} {D : List OV} {P : List Op5} (h : ReS B w0 w D P) (b : Below w0.heap.size w0 w) : ReD w D P := All2.imp (fun d e h => ⟨h.1, h.2.1, h.2.2.1, h.2.2.2.1, h.2.2.2.2.elim (fun r => r.below b) own_RN⟩) h
theorem doc_base8 {E : List Op5} (hg : ∀ o ∈ E, opE o = 0) (h : sumB E = 0) : ∀ o ∈ E, o.k = 1 ∨ o.k = 2 := fun o ho => by
  have hw : ∀ x ∈ E, Wel x := fun x hx => wel_of (hg x hx)
  have h1 := base_at8 hw ho
  have h2 := (hw o ho).kinds
  by_cases hk : o.k = 1 ∨ o.k = 2
  · exact hk
  · exfalso
    have h3 := (hw o ho).count (by omega)
    rw [base_3 (by omega)] at h1
    omega
theorem totS_sum : ∀ {E : List Op5}, (∀ o ∈ E, opE o = 0) → (∀ o ∈ E, o.k = 1 ∨ o.k = 2) → (totS E : Int) = sumR E
  | [], _, _ => rfl
  | o :: r, hg, hk => by
    have ih := totS_sum (E := r) (fun x hx => hg x (List.mem_cons_of_mem _ hx)) (fun x hx => hk x (List.mem_cons_of_mem _ hx))
    have h1 := len5_pos (hg o (List.mem_cons_self ..))
    have h2 := hk o (List.mem_cons_self ..)
    rw [totS_cons, sumR_cons, ← ih]
    unfold resO lnS
    rw [if_neg (by omega)]
    omega
theorem totS_take (E : List Op5) (k : Nat) : totS (E.take k) ≤ totS E := by
  have h : totS E = totS (E.take k) + totS (E.drop k) := by
    unfold totS
    rw [← List.sum_append, ← List.map_append, List.take_append_drop]
  omega
def RsR (w' : World) (E : List Op5) (i j : Int) (lv : Value) (e : Int) : Prop :=
  (¬ sumB E = 0 → e = 9 ∧ lv = .slice none 0 0) ∧ (sumB E = 0 → (i < 0 ∨ j < i ∨ sumR E < j) → e = 12 ∧ lv = .slice none 0 0) ∧
  (sumB E = 0 → ¬ (i < 0 ∨ j < i ∨ sumR E < j) → e = 0 ∧ (∃ p n c, lv = .slice p n c) ∧ ReO w' lv (slS i.toNat j.toNat E))
theorem cutR8 {I : List Nat} {a : Nat → Addr} (o : Op5) (s : Value) (m : Nat) (w : World) (hS : Std I a w) (hR : RN w s o.A) (hF : Fit o) (hg : opE o = 0) (hk : o.k = 1) (h1 : 1 ≤ m) (hm : m < lnS o) :
    Calls Tryz.prog 102 #[opV o s, .int .i64 m] w fun r w' => ∃ s1 s2, r = .returned (.tuple #[opV (hd7 o m) s1, opV (tl7 o m) s2, .int .i64 0]) ∧ OwnA w' w.heap.size s1 o.A ∧ OwnA w' w.heap.size s2 o.A ∧ Below w.heap.size w w' := by
  have hi : Ins o := by
    rcases op_good hg with ⟨h, _⟩ | ⟨_, _, h⟩ | ⟨_, _, h⟩
    · exact h
    · omega
    · omega
  have hl : lnS o = (scs o.t.data.toList).length := by unfold lnS; rw [len5_1 hk]; omega
  have c := refCut_ok (I := I) (a := a) o s m w hS hR hF hi hk h1 (by omega)
  have e1 : hd7 o m = headO o m := by unfold hd7; rw [if_pos hk]; rfl
  have e2 : tl7 o m = tailO o m := by unfold tl7; rw [if_pos hk]; rfl
  rw [e1, e2]
  exact c
theorem text_of_cut {o : Op5} (hg : opE o = 0) (hk : o.k = 1 ∨ o.k = 2) (h : 1 < lnS o) : o.k = 1 := by
  rcases hk with hk | hk
  · exact hk
  · exfalso
    unfold lnS at h
    rw [len5_2 hk] at h
    omega
/-- Seven cells of an operation, written anew. -/
theorem store7 {w4 W : World} {B : Nat} {cs : Array Value} (d : OV) (hb : w4.heap[B]? = some (.cells cs 33 (0, 0))) (hz : cs.size = 7)
    (hW : W = (((((((w4.setCell ⟨B, 0, none⟩ (.int .i64 d.1)).setCell ⟨B, 1, none⟩ (.string d.2.1)).setCell ⟨B, 2, none⟩ (.int .i64 d.2.2.1.1)).setCell ⟨B, 3, none⟩ (.int .i64 d.2.2.1.2.1)).setCell ⟨B, 4, none⟩ (.string d.2.2.1.2.2)).setCell ⟨B, 5, none⟩ (.int .i64 d.2.2.2.1)).setCell ⟨B, 6, none⟩ (slV d.2.2.2.2))) :
    W.heap[B]? = some (.cells (ovC d) 33 (0, 0)) ∧ KeepA w4 W ∧ (∀ k, k ≠ B → W.heap[k]? = w4.heap[k]?) ∧ (∀ b w, b ≤ B → Below b w w4 → Below b w W) := by
  have hk : ∀ k, k ≠ B → W.heap[k]? = w4.heap[k]? := fun k hk => by rw [hW]; exact heap_set7 _ hk _ _ _ _ _ _ _
  refine ⟨?_, fun k cur hc => hk k fun e => ?_, hk, fun b w h1 h2 => by rw [hW]; exact below_set7 h2 h1 _ _ _ _ _ _ _⟩
  · obtain ⟨l⟩ := cs
    match l, hz with
    | [x0, x1, x2, x3, x4, x5, x6], _ =>
      rw [hW]
      have h1 := heap_set_at _ _ 0 (.int .i64 d.1) _ _ _ hb
      simp only [List.setIfInBounds_toArray, List.set_cons_zero] at h1
      have h2 := heap_set_at _ _ 1 (.string d.2.1) _ _ _ h1
      simp only [List.setIfInBounds_toArray, List.set_cons_zero, List.set_cons_succ] at h2
      have h3 := heap_set_at _ _ 2 (.int .i64 d.2.2.1.1) _ _ _ h2
      simp only [List.setIfInBounds_toArray, List.set_cons_zero, List.set_cons_succ] at h3
      have h4 := heap_set_at _ _ 3 (.int .i64 d.2.2.1.2.1) _ _ _ h3
      simp only [List.setIfInBounds_toArray, List.set_cons_zero, List.set_cons_succ] at h4
      have h5 := heap_set_at _ _ 4 (.string d.2.2.1.2.2) _ _ _ h4
      simp only [List.setIfInBounds_toArray, List.set_cons_zero, List.set_cons_succ] at h5
      have h6 := heap_set_at _ _ 5 (.int .i64 d.2.2.2.1) _ _ _ h5
      simp only [List.setIfInBounds_toArray, List.set_cons_zero, List.set_cons_succ] at h6
      have h7 := heap_set_at _ _ 6 (slV d.2.2.2.2) _ _ _ h6
      simp only [List.setIfInBounds_toArray, List.set_cons_zero, List.set_cons_succ] at h7
      exact h7
  · subst e
    rw [hb] at hc
    simp only [Option.some.injEq, Obj.cells.injEq] at hc
    exact absurd hc.2.1 (by decide)
theorem opAt_blk {w : World} {B : Nat} {d : OV} (h : w.heap[B]? = some (.cells (ovC d) 33 (0, 0))) : OpAt w B 0 d := by
  have e : ∀ i u, (ovC d)[i]? = some u → w.cell? ⟨B, i, none⟩ = some u := fun i u hu => by rw [cell_of_heap h]; exact hu
  exact ⟨e _ _ rfl, e _ _ rfl, e _ _ rfl, e _ _ rfl, e _ _ rfl, e _ _ rfl, e _ _ rfl⟩
/-- What the loop has so far. -/
structure SlI (E : List Op5) (F T : Nat) (w wr : World) (u : Value) (k : Nat) : Prop where
  ex : ∃ D, OwnO wr w.heap.size u D ∧ ReS w.heap.size w wr D (slS F T (E.take k))
  below : Below w.heap.size w wr
theorem SlI.step0 {E : List Op5} {F T : Nat} {w wr w' : World} {u : Value} {k : Nat} {e : Op5} (h : SlI E F T w wr u k) (he : E.take (k + 1) = E.take k ++ [e]) (hno : ¬ F - totS (E.take k) < min (T - totS (E.take k)) (lnS e)) (b : Below wr.heap.size wr w') : SlI E F T w w' u (k + 1) := by
  obtain ⟨⟨D, h1, h2⟩, h3⟩ := h
  refine ⟨⟨D, owns_below h1 b, ?_⟩, h3.trans (b.mono h3.size)⟩
  rw [he, slS_snoc, if_neg hno, List.append_nil]
  exact h2.keep (keepA_below b)
theorem SlI.stepP {E : List Op5} {F T : Nat} {w wr W w8 : World} {u v8 : Value} {k : Nat} {e : Op5} {D : List OV} {d : OV} (h2 : ReS w.heap.size w wr D (slS F T (E.take k))) (he : E.take (k + 1) = E.take k ++ [e]) (hyes : F - totS (E.take k) < min (T - totS (E.take k)) (lnS e))
    (hd : d.1 = (pcS e (F - totS (E.take k)) (min (T - totS (E.take k)) (lnS e))).k ∧ d.2.1 = (pcS e (F - totS (E.take k)) (min (T - totS (E.take k)) (lnS e))).t ∧ d.2.2.1 = (pcS e (F - totS (E.take k)) (min (T - totS (E.take k)) (lnS e))).v ∧ d.2.2.2.1 = (pcS e (F - totS (E.take k)) (min (T - totS (E.take k)) (lnS e))).c ∧ (RN w (slV d.2.2.2.2) (pcS e (F - totS (E.take k)) (min (T - totS (E.take k)) (lnS e))).A ∨ OwnA W w.heap.size (slV d.2.2.2.2) (pcS e (F - totS (E.take k)) (min (T - totS (E.take k)) (lnS e))).A))
    (k1 : KeepA wr W) (k2 : KeepA W w8) (o8 : OwnO w8 w.heap.size v8 (D ++ [d])) (b8 : Below w.heap.size w w8) : SlI E F T w w8 v8 (k + 1) := by
  refine ⟨⟨D ++ [d], o8, ?_⟩, b8⟩
  rw [he, slS_snoc, if_pos hyes]
  exact (h2.keep (fun k cur hk => (k2 k cur ((k1 k cur hk).trans hk)).trans (k1 k cur hk))).snoc ⟨hd.1, hd.2.1, hd.2.2.1, hd.2.2.2.1, hd.2.2.2.2.imp id fun o => keepA_own o k2⟩
set_option maxHeartbeats 16000000 in
set_option maxRecDepth 100000 in
theorem refSlice8_any {I : List Nat} {a : Nat → Addr} (v : Value) (E : List Op5) (i j : Int) (w : World) (hS : Std I a w) (h : RfE w v E) (hi : -9223372036854775808 ≤ i ∧ i ≤ 9223372036854775807) (hj : -9223372036854775808 ≤ j ∧ j ≤ 9223372036854775807) :
    Calls Tryz.prog 48 #[v, .int .i64 i, .int .i64 j] w fun r w' => ∃ lv e, r = .returned (.tuple #[lv, .int .i64 e]) ∧ RsR w' E i j lv e ∧ Below w.heap.size w w' := by
  obtain ⟨p, cp, rfl⟩ := h.sl
  obtain ⟨n, hn⟩ : ∃ n, E.length = n := ⟨_, rfl⟩
  rw [hn] at h ⊢
  have H := Hid.mk8 h
  have HN : Hid (E.length = n) := hn
  have hl : n ≤ 1048576 := by rw [← hn]; exact h.len
  have cD := refDoc8_any _ E w h
  have cR : Hid (∀ W, Below w.heap.size w W → Calls Tryz.prog 37 #[.slice p n cp] W fun r w' => r = .returned (.int .i64 (sumR E)) ∧ Below W.heap.size W w') := fun W hW => refResult8_any _ E W (hS.below hW) (h.below hW)
  have HS : Hid (Std I a w) := hS
  clear h hn hS
  by_cases hB : sumB E = 0
  · rw [show (sumB E == 0) = true by rw [hB]; rfl] at cD
    by_cases hbad : i < 0 ∨ j < i ∨ sumR E < j
    · have HF : Hid (∀ w', RsR w' E i j (.slice none 0 0) 12) := fun w' => ⟨fun h => absurd hB h, fun _ _ => ⟨rfl, rfl⟩, fun _ h => absurd hbad h⟩
      clear hB
      by_cases b1 : i < 0
      · clear hbad cR
        go_enter Tryz.func48, Tryz.ntmps48
        go_wp2_with fail
        refine cD.mono ?_; rintro r w1 ⟨rfl, d1⟩
        clear cD
        go_wp2
        go_ret2
        exact ⟨_, 12, rfl, HF.out _, d1⟩
      · by_cases b2 : j < i
        · clear hbad cR
          go_enter Tryz.func48, Tryz.ntmps48
          go_wp2_with fail
          refine cD.mono ?_; rintro r w1 ⟨rfl, d1⟩
          clear cD
          go_wp2
          go_ret2
          exact ⟨_, 12, rfl, HF.out _, d1⟩
        · have b3 : sumR E < j := by omega
          obtain ⟨R, hR⟩ : ∃ x, sumR E = x := ⟨_, rfl⟩
          rw [hR] at b3 cR
          have b4 : j > R := b3
          clear hbad hR b3
          go_enter Tryz.func48, Tryz.ntmps48
          go_wp2_with fail
          refine cD.mono ?_; rintro r w1 ⟨rfl, d1⟩
          have c2 := cR.out w1 d1
          clear cD cR
          go_wp2_with fail
          refine c2.mono ?_; rintro r w2 ⟨rfl, d2⟩
          have d12 := d1.trans (d2.mono d1.size)
          clear c2 d1 d2
          go_wp2
          go_ret2
          exact ⟨_, 12, rfl, HF.out _, d12⟩
    · have hdoc := doc_base8 H.out.g hB
      have htot := totS_sum H.out.g hdoc
      have hfit := H.out.fits.2
      obtain ⟨F, rfl⟩ : ∃ F : Nat, i = F := ⟨i.toNat, by omega⟩
      obtain ⟨T, rfl⟩ : ∃ T : Nat, j = T := ⟨j.toNat, by omega⟩
      have hFT : F ≤ T := by omega
      have hTT : T ≤ totS E := by omega
      have hbig : totS E ≤ 1099511627776 := by omega
      have HF : Hid (∀ w' lv, (∃ p n c, lv = .slice p n c) → ReO w' lv (slS F T E) → RsR w' E F T lv 0) := fun w' lv h1 h2 => ⟨fun h => absurd hB h, fun _ h => absurd h hbad, fun _ _ => ⟨rfl, h1, by simpa using h2⟩⟩
      have HD : Hid (∀ o ∈ E, o.k = 1 ∨ o.k = 2) := hdoc
      obtain ⟨R, hR⟩ : ∃ x, sumR E = x := ⟨_, rfl⟩
      rw [hR] at cR htot hbad
      have b1 : ¬ (F : Int) < 0 := by omega
      have b2 : ¬ (T : Int) < (F : Int) := by omega
      have b4 : ¬ (T : Int) > R := by omega
      have HBB : Hid (F ≤ T ∧ T ≤ totS E ∧ totS E ≤ 1099511627776) := ⟨hFT, hTT, hbig⟩
      clear hbad hB hdoc hR htot hfit hi hj hFT hTT hbig
      go_enter Tryz.func48, Tryz.ntmps48
      go_wp2_with fail
      refine cD.mono ?_; rintro r w1 ⟨rfl, d1⟩
      have c2 := cR.out w1 d1
      clear cD cR
      go_wp2_with fail
      refine c2.mono ?_; rintro r w2 ⟨rfl, d2⟩
      have d12 := d1.trans (d2.mono d1.size)
      clear c2 d1 d2
      go_wp2
      have z1 : decide ((F : Int) < 0) = false := decide_eq_false (by omega)
      have z2 : decide (T < F) = false := decide_eq_false (by omega)
      have z3 : decide (R < (T : Int)) = false := decide_eq_false (by omega)
      rw [z1, z2, z3]
      simp only [Bool.or_self]
      clear z1 z2 z3 b1 b2 b4
      go_loopw [8, 9, 10] (fun u s i wr => ∃ (k z : Nat), k ≤ n ∧ i = .int .i64 k ∧ s = .int .i64 z ∧ Hid (totS (E.take k) = z) ∧ (∃ p c m, u = .slice p m c) ∧ Hid (SlI E F T w wr u k)) (fun _ _ i _ => n - (RowKit.intOf i).toNat)
      case atStart => exact ⟨0, 0, Nat.zero_le _, rfl, rfl, by show totS (E.take 0) = 0; rw [List.take_zero]; rfl, ⟨_, _, _, rfl⟩, ⟨⟨[], ⟨rfl, Or.inl ⟨rfl, rfl⟩⟩, by rw [List.take_zero]; exact .nil⟩, d12⟩⟩
      case round =>
        clear d12
        obtain ⟨k, z, hk, rfl, rfl, HZ, ⟨up, uc, um, rfl⟩, HI⟩ := hrel
        by_cases hlt : k < n
        · have hltI : (k : Int) < n := by omega
          have hbw := HI.out.below
          obtain ⟨-, hcp, e, b, off, sp, sc, he, rfl, hat, hrn, hg, hf⟩ := (H.out.below hbw).at' hlt
          obtain ⟨_, _, e2, b2, off2, sp2, sc2, he2, hp2, hat2, hrn2, _, _⟩ := H.out.at' hlt
          have hem := List.mem_of_getElem? he
          have hT1 : E.take (k + 1) = E.take k ++ [e] := by rw [List.take_add_one, he]; rfl
          have hz1 : totS (E.take (k + 1)) = z + lnS e := by rw [hT1, totS_snoc, HZ.out]
          have hz2 := totS_take E (k + 1)
          rw [hz1] at hz2
          have hln : (lnS e : Int) = len5 e := by have := len5_pos hg; unfold lnS; omega
          have hlp : 1 ≤ lnS e := by have := len5_pos hg; omega
          have cl := refLenO_any e (.slice sp e.A.length sc) wr hg hf
          rw [← hln] at cl
          have HT : Hid (E.take (k + 1) = E.take k ++ [e] ∧ totS (E.take (k + 1)) = z + lnS e) := ⟨hT1, hz1⟩
          have HG : Hid (opE e = 0 ∧ Fit e ∧ (e.k = 1 ∨ e.k = 2) ∧ RN wr (.slice sp e.A.length sc) e.A) := ⟨hg, hf, HD.out e hem, hrn⟩
          have HRN : Hid (∀ b' off', (some ⟨b, off, none⟩ : Option Addr) = some ⟨b', off', none⟩ → True) := fun _ _ _ => trivial
          have hrw : RN w (.slice sp e.A.length sc) e.A := by
            obtain rfl : e2 = e := Option.some.inj (he2.symm.trans he)
            simp only [Option.some.injEq, Addr.mk.injEq, and_true] at hp2
            obtain ⟨rfl, rfl⟩ := hp2
            have q1 := hat2.c6
            have q2 := (hbw.cell (lt_of_cell q1)).trans q1
            rw [hat.c6] at q2
            simp only [slV, Option.some.injEq, Value.slice.injEq] at q2
            obtain ⟨rfl, -, rfl⟩ := q2
            exact hrn2
          have HW : Hid (RN w (.slice sp e.A.length sc) e.A) := hrw
          obtain ⟨c0, c1, c2, c3, c4, c5, c6⟩ := hat
          obtain ⟨L, hL⟩ : ∃ x, lnS e = x := ⟨_, rfl⟩
          rw [hL] at cl hz2 hlp
          have HL : Hid (lnS e = L) := hL
          obtain ⟨f, hfq⟩ : ∃ f, F - z = f := ⟨_, rfl⟩
          have hmax : max ((F : Int) - (z : Int)) 0 = (f : Int) := by omega
          have HFQ : Hid (F - z = f) := hfq
          have hzz : (z : Int) ≤ 1099511627776 := by have := HBB.out; omega
          have hLL : (L : Int) ≤ 1099511627776 := by have := HBB.out; omega
          have hFF : (F : Int) ≤ 1099511627776 := by have := HBB.out; omega
          have hTF : (T : Int) ≤ 1099511627776 := by have := HBB.out; omega
          have HEQ : Hid (∃ x : Op5, x = e) := ⟨e, rfl⟩
          clear hem hT1 hz1 hln hg hf hrn he he2 hp2 hat2 hrn2 hrw HRN hL hfq
          by_cases hyes : f < min (T - z) L
          · obtain ⟨hh, hhq⟩ : ∃ hh, min (T - z) L = hh := ⟨_, rfl⟩
            rw [hhq] at hyes
            have hmin : min ((T : Int) - (z : Int)) (L : Int) = (hh : Int) := by omega
            have hfh : (f : Int) < (hh : Int) := by omega
            have hhL : hh ≤ L := by omega
            have HHQ : Hid (min (T - z) L = hh ∧ f < hh ∧ hh ≤ L) := ⟨hhq, hyes, hhL⟩
            clear hhq
            obtain ⟨D, hown, hres⟩ := HI.out.ex
            have HO : Hid (OwnO wr w.heap.size (.slice up um uc) D ∧ ReS w.heap.size w wr D (slS F T (E.take k)) ∧ Below w.heap.size w wr ∧ D.length ≤ 33554432) := ⟨hown, hres, hbw, by rw [forall2_len hres]; have := slS_len (E.take k) F T; rw [List.length_take] at this; omega⟩
            have hcut : Hid (1 < L → e.k = 1) := fun h => text_of_cut HG.out.1 HG.out.2.2.1 (by rw [HL.out]; exact h)
            have hPC := pcS_ok HG.out.1 HHQ.out.2.1 (by rw [HL.out]; exact hhL)
            have HPC : Hid (PcS e (pcS e f hh) f hh) := hPC
            have hKs : SlI E F T w wr (.slice up um uc) k := HI.out
            have HUP : Hid (∀ W w8 v8 d, KeepA wr W → KeepA W w8 → OwnO w8 w.heap.size v8 (D ++ [d]) → Below w.heap.size w w8 → (d.1 = (pcS e f hh).k ∧ d.2.1 = (pcS e f hh).t ∧ d.2.2.1 = (pcS e f hh).v ∧ d.2.2.2.1 = (pcS e f hh).c ∧ (RN w (slV d.2.2.2.2) (pcS e f hh).A ∨ OwnA W w.heap.size (slV d.2.2.2.2) (pcS e f hh).A)) → SlI E F T w w8 v8 (k + 1)) := fun W w8 v8 d k1 k2 o8 b8 hd => by
              have e1 : F - totS (E.take k) = f := by rw [HZ.out]; exact HFQ.out
              have e2 : min (T - totS (E.take k)) (lnS e) = hh := by rw [HZ.out, HL.out]; exact HHQ.out.1
              exact SlI.stepP (W := W) (d := d) (u := .slice up um uc) HO.out.2.1 HT.out.1 (by rw [e1, e2]; exact HHQ.out.2.1) (by rw [e1, e2]; exact hd) k1 k2 o8 b8
            have hbz := hbw.size
            have cC1 : Hid (0 < f → ∀ W, Below wr.heap.size wr W → Calls Tryz.prog 102 #[opV e (.slice sp e.A.length sc), .int .i64 f] W fun r w' => ∃ s1 s2, r = .returned (.tuple #[opV (hd7 e f) s1, opV (tl7 e f) s2, .int .i64 0]) ∧ OwnA w' W.heap.size s1 e.A ∧ OwnA w' W.heap.size s2 e.A ∧ Below W.heap.size W w') := fun h0 W hW =>
              cutR8 e _ f W (HS.out.below (HO.out.2.2.1.trans (hW.mono HO.out.2.2.1.size))) (HG.out.2.2.2.below hW) HG.out.2.1 HG.out.1 (hcut.out (by have := HHQ.out; omega)) h0 (by rw [HL.out]; have := HHQ.out; omega)
            have cC2 : Hid (hh < L → ∀ W s (x : Op5), x = (if 0 < f then tl7 e f else e) → Below w.heap.size w W → RN W s x.A → Calls Tryz.prog 102 #[opV x s, .int .i64 ((hh : Int) - (f : Int))] W fun r w' => ∃ s1 s2, r = .returned (.tuple #[opV (hd7 x ((hh : Int) - f)) s1, opV (tl7 x ((hh : Int) - f)) s2, .int .i64 0]) ∧ OwnA w' W.heap.size s1 x.A ∧ OwnA w' W.heap.size s2 x.A ∧ Below W.heap.size W w') := fun hlL W s x hx hW hr => by
              have hek : e.k = 1 := hcut.out (by have := HHQ.out; omega)
              have e3 : ((hh : Int) - (f : Int)) = ((hh - f : Nat) : Int) := by have := HHQ.out; omega
              rw [e3]
              by_cases h0 : 0 < f
              · rw [if_pos h0] at hx
                have q := cut7 (o := e) (n := f) HG.out.1 (by omega) (by have := HL.out; have := HHQ.out; have := len5_pos HG.out.1; unfold lnS at *; omega)
                subst hx
                have hfi : Fit (tl7 e f) := ⟨Nat.le_trans q.tz HG.out.2.1.t, by rw [q.tv]; exact HG.out.2.1.v, by rw [q.tA]; exact HG.out.2.1.A, by rw [q.tA]; exact HG.out.2.1.n⟩
                exact cutR8 _ _ _ W (HS.out.below hW) hr hfi q.t0 (q.tk.trans hek) (by have := HHQ.out; omega) (by have h9 := q.tl; have := HL.out; have := HHQ.out; have := len5_pos HG.out.1; unfold lnS at *; omega)
              · rw [if_neg h0] at hx
                subst hx
                exact cutR8 _ _ _ W (HS.out.below hW) hr HG.out.2.1 HG.out.1 hek (by have := HHQ.out; omega) (by have := HL.out; have := HHQ.out; omega)
            have hLv : lnS e = L := HL.out
            have HPV : Hid (pcS e f hh = (if hh < L then hd7 (if 0 < f then tl7 e f else e) ((hh : Int) - f) else if 0 < f then tl7 e f else e)) := by show _ = _; unfold pcS; rw [hLv]
            have HA : Hid ((pcS e f hh).A = e.A ∧ (0 < f → (tl7 e f).A = e.A)) := ⟨hPC.A, fun h0 => (cut7 (o := e) (n := f) HG.out.1 (by omega) (by have := HL.out; have := HHQ.out; have := len5_pos HG.out.1; unfold lnS at *; omega)).tA⟩
            clear hown hres hbw hPC hKs HI HPC hLv hcut
            by_cases h0 : 0 < f
            · by_cases h9 : hh < L
              · have hfp : 0 < f := h0
                have hhp : hh < L := h9
                have hfI : (f : Int) > 0 := by omega
                have hhI : (hh : Int) < (L : Int) := by omega
                have cA := cC1.out hfp
                have cB := cC2.out hhp
                have HP := Hid.mk8 HPV.out
                rw [if_pos hhp, if_pos hfp] at HP
                clear cC1 cC2 HPV h0 h9
                rw [if_pos hfp] at cB
                have HEA := Hid.mk8 (HA.out)
                obtain ⟨AL, hAL⟩ : ∃ x, e.A.length = x := ⟨_, rfl⟩
                rw [hAL] at c6 cl HW cA
                have HB3 : Hid (∀ w3, Below wr.heap.size wr w3 → (OpAt w3 b (off + k * 7) (e.k, e.t, e.v, e.c, sp, AL, sc)) ∧ Below w.heap.size w w3) := fun w3 b3 => ⟨OpAt.below (w := wr) ⟨c0, c1, c2, c3, c4, c5, c6⟩ b3, HO.out.2.2.1.trans (b3.mono HO.out.2.2.1.size)⟩
                clear hAL HA
                have cl' : Calls Tryz.prog 97 #[.agg #[.int .i64 e.k, .string e.t, .int .i64 e.v.1, .int .i64 e.v.2.1, .string e.v.2.2, .int .i64 e.c, .slice sp AL sc]] wr fun r w' => r = .returned (.int .i64 L) ∧ Below wr.heap.size wr w' := cl
                clear cl
                simp only [slV] at c6
                go_wp2_with fail
                refine cl'.mono ?_; rintro r w3 ⟨rfl, b3⟩
                obtain ⟨⟨d0, d1, d2, d3, d4, d5, d6⟩, bw3⟩ := HB3.out w3 b3
                simp only [slV] at d6
                have HK3 : Hid (KeepA wr w3 ∧ Below wr.heap.size wr w3) := ⟨keepA_below b3, b3⟩
                clear cl' c0 c1 c2 c3 c4 c5 c6 HB3 b3
                have bx := (Below.refl w3.heap.size w3).alloc (Nat.le_refl _) (.cells #[.int .i64 e.k, .string e.t, .int .i64 e.v.1, .int .i64 e.v.2.1, .string e.v.2.2, .int .i64 e.c, .slice sp AL sc] 33)
                have bw4 := HK3.out.2.trans (bx.mono HK3.out.2.size)
                have c7 := cA (w3.alloc (.cells #[.int .i64 e.k, .string e.t, .int .i64 e.v.1, .int .i64 e.v.2.1, .string e.v.2.2, .int .i64 e.c, .slice sp AL sc] 33)) bw4
                obtain ⟨P1, hP1⟩ : ∃ x, tl7 e f = x := ⟨_, rfl⟩
                obtain ⟨Q1, hQ1⟩ : ∃ x, hd7 e f = x := ⟨_, rfl⟩
                have HP1 : Hid (tl7 e f = P1 ∧ P1.A = e.A) := ⟨hP1, by rw [← hP1]; exact HEA.out.2 hfp⟩
                rw [hP1, hQ1] at c7
                rw [hP1] at cB HP
                clear hP1 hQ1 cA
                obtain ⟨pk, pt, ⟨px, pn, pu⟩, pc, pA⟩ := P1
                obtain ⟨qk, qt, ⟨qx, qn, qu⟩, qc, qA⟩ := Q1
                go_wp2_with fail
                refine c7.mono ?_; rintro r w5 ⟨s1, s2, rfl, o1, o2, b5⟩
                obtain ⟨x2, y2, z2, rfl⟩ : ∃ x y z, s2 = .slice x y z := by obtain ⟨q, c', e1, _⟩ := (own_RN o2).row.val; exact ⟨_, _, _, e1⟩
                have hblk : w5.heap[w3.heap.size]? = some (.cells #[.int .i64 e.k, .string e.t, .int .i64 e.v.1, .int .i64 e.v.2.1, .string e.v.2.2, .int .i64 e.c, .slice sp AL sc] 33 (0, 0)) := heap_below b5 (heap_alloc_new w3 _)
                have e0 : w5.cell? ⟨w3.heap.size, 0, none⟩ = some (.int .i64 e.k) := by rw [cell_of_heap hblk]; rfl
                have e1 : w5.cell? ⟨w3.heap.size, 1, none⟩ = some (.string e.t) := by rw [cell_of_heap hblk]; rfl
                have e2 : w5.cell? ⟨w3.heap.size, 2, none⟩ = some (.int .i64 e.v.1) := by rw [cell_of_heap hblk]; rfl
                have e3 : w5.cell? ⟨w3.heap.size, 3, none⟩ = some (.int .i64 e.v.2.1) := by rw [cell_of_heap hblk]; rfl
                have e4 : w5.cell? ⟨w3.heap.size, 4, none⟩ = some (.string e.v.2.2) := by rw [cell_of_heap hblk]; rfl
                have e5 : w5.cell? ⟨w3.heap.size, 5, none⟩ = some (.int .i64 e.c) := by rw [cell_of_heap hblk]; rfl
                have e6 : w5.cell? ⟨w3.heap.size, 6, none⟩ = some (.slice sp AL sc) := by rw [cell_of_heap hblk]; rfl
                have g0 : w5.frozen? ⟨w3.heap.size, 0, none⟩ = false := frozen_of_row w5 _ 0 _ _ hblk
                have g1 : w5.frozen? ⟨w3.heap.size, 1, none⟩ = false := frozen_of_row w5 _ 1 _ _ hblk
                have g2 : w5.frozen? ⟨w3.heap.size, 2, none⟩ = false := frozen_of_row w5 _ 2 _ _ hblk
                have g3 : w5.frozen? ⟨w3.heap.size, 3, none⟩ = false := frozen_of_row w5 _ 3 _ _ hblk
                have g4 : w5.frozen? ⟨w3.heap.size, 4, none⟩ = false := frozen_of_row w5 _ 4 _ _ hblk
                have g5 : w5.frozen? ⟨w3.heap.size, 5, none⟩ = false := frozen_of_row w5 _ 5 _ _ hblk
                have g6 : w5.frozen? ⟨w3.heap.size, 6, none⟩ = false := frozen_of_row w5 _ 6 _ _ hblk
                have HC5 : Hid (w5.heap[w3.heap.size]? = some (.cells #[.int .i64 e.k, .string e.t, .int .i64 e.v.1, .int .i64 e.v.2.1, .string e.v.2.2, .int .i64 e.c, .slice sp AL sc] 33 (0, 0)) ∧ OwnA w5 (w3.alloc (.cells #[.int .i64 e.k, .string e.t, .int .i64 e.v.1, .int .i64 e.v.2.1, .string e.v.2.2, .int .i64 e.c, .slice sp AL sc] 33)).heap.size (.slice x2 y2 z2) e.A ∧ Below (w3.alloc (.cells #[.int .i64 e.k, .string e.t, .int .i64 e.v.1, .int .i64 e.v.2.1, .string e.v.2.2, .int .i64 e.c, .slice sp AL sc] 33)).heap.size (w3.alloc (.cells #[.int .i64 e.k, .string e.t, .int .i64 e.v.1, .int .i64 e.v.2.1, .string e.v.2.2, .int .i64 e.c, .slice sp AL sc] 33)) w5 ∧ Below wr.heap.size wr (w3.alloc (.cells #[.int .i64 e.k, .string e.t, .int .i64 e.v.1, .int .i64 e.v.2.1, .string e.v.2.2, .int .i64 e.c, .slice sp AL sc] 33))) := ⟨hblk, o2, b5, bw4⟩
                clear c7 o1 o2 b5 hblk d0 d1 d2 d3 d4 d5 d6 bw4
                go_upto_region 16 with fail
                obtain ⟨W6, hW6⟩ : ∃ W, W = (((((((w5.setCell ⟨w3.heap.size, 0, none⟩ (.int .i64 pk)).setCell ⟨w3.heap.size, 1, none⟩ (.string pt)).setCell ⟨w3.heap.size, 2, none⟩ (.int .i64 px)).setCell ⟨w3.heap.size, 3, none⟩ (.int .i64 pn)).setCell ⟨w3.heap.size, 4, none⟩ (.string pu)).setCell ⟨w3.heap.size, 5, none⟩ (.int .i64 pc)).setCell ⟨w3.heap.size, 6, none⟩ (.slice x2 y2 z2)) := ⟨_, rfl⟩
                obtain ⟨s70, s71, s72, s73⟩ := store7 (pk, pt, (px, pn, pu), pc, x2, y2, z2) HC5.out.1 rfl hW6
                rw [← hW6]
                have hzz5 := HC5.out.2.2.1.size
                have hzz4 := HC5.out.2.2.2.size
                have hzw : w.heap.size ≤ w3.heap.size := bw3.size
                have hz34 : (w3.alloc (.cells #[.int .i64 e.k, .string e.t, .int .i64 e.v.1, .int .i64 e.v.2.1, .string e.v.2.2, .int .i64 e.c, .slice sp AL sc] 33)).heap.size = w3.heap.size + 1 := by rw [World.size_alloc]
                have hzr : wr.heap.size ≤ w3.heap.size := HK3.out.2.size
                have HC6 : Hid (W6.heap[w3.heap.size]? = some (.cells (ovC (pk, pt, (px, pn, pu), pc, x2, y2, z2)) 33 (0, 0)) ∧ OwnA W6 w.heap.size (.slice x2 y2 z2) e.A ∧ KeepA wr W6 ∧ Below w.heap.size w W6 ∧ Below wr.heap.size wr W6) := by
                  have k5 : KeepA wr w5 := fun k cur hk => by
                    have h1 := keepA_below HC5.out.2.2.2 k cur hk
                    exact (keepA_below HC5.out.2.2.1 k cur (h1.trans hk)).trans h1
                  have bb : Below wr.heap.size wr w5 := HC5.out.2.2.2.trans (HC5.out.2.2.1.mono hzz4)
                  exact ⟨s70, own_weaken (owns_same HC5.out.2.1 fun k hk => s72 k (by have := (owns_block HC5.out.2.1 k hk).1; omega)) (by omega), fun k cur hk => (s71 k cur ((k5 k cur hk).trans hk)).trans (k5 k cur hk), s73 _ _ (by omega) (HO.out.2.2.1.trans (bb.mono HO.out.2.2.1.size)), s73 _ _ (by omega) bb⟩
                clear hW6 s70 s71 s72 s73 e0 e1 e2 e3 e4 e5 e6 g0 g1 g2 g3 g4 g5 g6 HC5 hzz5 hzz4 hz34 bx
                have e0 : W6.cell? ⟨w3.heap.size, 0, none⟩ = some (.int .i64 pk) := by rw [cell_of_heap HC6.out.1]; rfl
                have e1 : W6.cell? ⟨w3.heap.size, 1, none⟩ = some (.string pt) := by rw [cell_of_heap HC6.out.1]; rfl
                have e2 : W6.cell? ⟨w3.heap.size, 2, none⟩ = some (.int .i64 px) := by rw [cell_of_heap HC6.out.1]; rfl
                have e3 : W6.cell? ⟨w3.heap.size, 3, none⟩ = some (.int .i64 pn) := by rw [cell_of_heap HC6.out.1]; rfl
                have e4 : W6.cell? ⟨w3.heap.size, 4, none⟩ = some (.string pu) := by rw [cell_of_heap HC6.out.1]; rfl
                have e5 : W6.cell? ⟨w3.heap.size, 5, none⟩ = some (.int .i64 pc) := by rw [cell_of_heap HC6.out.1]; rfl
                have e6 : W6.cell? ⟨w3.heap.size, 6, none⟩ = some (.slice x2 y2 z2) := by rw [cell_of_heap HC6.out.1]; rfl
                have c8 := cB W6 (.slice x2 y2 z2) ⟨pk, pt, (px, pn, pu), pc, pA⟩ rfl HC6.out.2.2.2.1 (by rw [HP1.out.2]; exact own_RN HC6.out.2.1)
                obtain ⟨P2, hP2⟩ : ∃ x, hd7 (⟨pk, pt, (px, pn, pu), pc, pA⟩ : Op5) ((hh : Int) - f) = x := ⟨_, rfl⟩
                obtain ⟨Q2, hQ2⟩ : ∃ x, tl7 (⟨pk, pt, (px, pn, pu), pc, pA⟩ : Op5) ((hh : Int) - f) = x := ⟨_, rfl⟩
                rw [hP2, hQ2] at c8
                rw [hP2] at HP
                clear hP2 hQ2 cB
                obtain ⟨rk, rt, ⟨rx, rn, ru⟩, rc, rA⟩ := P2
                obtain ⟨tk, tt, ⟨tx, tn, tu⟩, tc, tA⟩ := Q2
                simp only [opV] at c8
                go_wp2_with fail
                refine c8.mono ?_; rintro r w7 ⟨s3, s4, rfl, o3, o4, b7⟩
                obtain ⟨x3, y3, z3, rfl⟩ : ∃ x y z, s3 = .slice x y z := by obtain ⟨q, c', e1, _⟩ := (own_RN o3).row.val; exact ⟨_, _, _, e1⟩
                have hblk : w7.heap[w3.heap.size]? = some (.cells (ovC (pk, pt, (px, pn, pu), pc, x2, y2, z2)) 33 (0, 0)) := heap_below b7 HC6.out.1
                clear e0 e1 e2 e3 e4 e5 e6
                rw [HP1.out.2] at o3
                have e0 : w7.cell? ⟨w3.heap.size, 0, none⟩ = some (.int .i64 pk) := by rw [cell_of_heap hblk]; rfl
                have e1 : w7.cell? ⟨w3.heap.size, 1, none⟩ = some (.string pt) := by rw [cell_of_heap hblk]; rfl
                have e2 : w7.cell? ⟨w3.heap.size, 2, none⟩ = some (.int .i64 px) := by rw [cell_of_heap hblk]; rfl
                have e3 : w7.cell? ⟨w3.heap.size, 3, none⟩ = some (.int .i64 pn) := by rw [cell_of_heap hblk]; rfl
                have e4 : w7.cell? ⟨w3.heap.size, 4, none⟩ = some (.string pu) := by rw [cell_of_heap hblk]; rfl
                have e5 : w7.cell? ⟨w3.heap.size, 5, none⟩ = some (.int .i64 pc) := by rw [cell_of_heap hblk]; rfl
                have e6 : w7.cell? ⟨w3.heap.size, 6, none⟩ = some (.slice x2 y2 z2) := by rw [cell_of_heap hblk]; rfl
                have g0 : w7.frozen? ⟨w3.heap.size, 0, none⟩ = false := frozen_of_row w7 _ 0 _ _ hblk
                have g1 : w7.frozen? ⟨w3.heap.size, 1, none⟩ = false := frozen_of_row w7 _ 1 _ _ hblk
                have g2 : w7.frozen? ⟨w3.heap.size, 2, none⟩ = false := frozen_of_row w7 _ 2 _ _ hblk
                have g3 : w7.frozen? ⟨w3.heap.size, 3, none⟩ = false := frozen_of_row w7 _ 3 _ _ hblk
                have g4 : w7.frozen? ⟨w3.heap.size, 4, none⟩ = false := frozen_of_row w7 _ 4 _ _ hblk
                have g5 : w7.frozen? ⟨w3.heap.size, 5, none⟩ = false := frozen_of_row w7 _ 5 _ _ hblk
                have g6 : w7.frozen? ⟨w3.heap.size, 6, none⟩ = false := frozen_of_row w7 _ 6 _ _ hblk
                have HC7 : Hid (w7.heap[w3.heap.size]? = some (.cells (ovC (pk, pt, (px, pn, pu), pc, x2, y2, z2)) 33 (0, 0)) ∧ OwnA w7 W6.heap.size (.slice x3 y3 z3) e.A ∧ Below W6.heap.size W6 w7) := ⟨hblk, o3, b7⟩
                clear c8 o3 o4 b7 hblk
                go_upto_region 18 with fail
                obtain ⟨W8, hW8⟩ : ∃ W, W = (((((((w7.setCell ⟨w3.heap.size, 0, none⟩ (.int .i64 rk)).setCell ⟨w3.heap.size, 1, none⟩ (.string rt)).setCell ⟨w3.heap.size, 2, none⟩ (.int .i64 rx)).setCell ⟨w3.heap.size, 3, none⟩ (.int .i64 rn)).setCell ⟨w3.heap.size, 4, none⟩ (.string ru)).setCell ⟨w3.heap.size, 5, none⟩ (.int .i64 rc)).setCell ⟨w3.heap.size, 6, none⟩ (.slice x3 y3 z3)) := ⟨_, rfl⟩
                obtain ⟨s70, s71, s72, s73⟩ := store7 (rk, rt, (rx, rn, ru), rc, x3, y3, z3) HC7.out.1 rfl hW8
                rw [← hW8]
                have HC8 : Hid (W8.heap[w3.heap.size]? = some (.cells (ovC (rk, rt, (rx, rn, ru), rc, x3, y3, z3)) 33 (0, 0)) ∧ OwnA W8 w.heap.size (.slice x3 y3 z3) e.A ∧ KeepA wr W8 ∧ Below w.heap.size w W8 ∧ Below wr.heap.size wr W8) := by
                  have hzz5 := HC7.out.2.2.size
                  have hz6 := (Array.getElem?_eq_some_iff.1 HC6.out.1).1
                  have k5 : KeepA wr w7 := fun k cur hk => by
                    have h1 := HC6.out.2.2.1 k cur hk
                    exact (keepA_below HC7.out.2.2 k cur (h1.trans hk)).trans h1
                  have bb : Below wr.heap.size wr w7 := HC6.out.2.2.2.2.trans (HC7.out.2.2.mono HC6.out.2.2.2.2.size)
                  exact ⟨s70, own_weaken (owns_same HC7.out.2.1 fun k hk => s72 k (by have := (owns_block HC7.out.2.1 k hk).1; omega)) (by omega), fun k cur hk => (s71 k cur ((k5 k cur hk).trans hk)).trans (k5 k cur hk), s73 _ _ (by omega) (HO.out.2.2.1.trans (bb.mono HO.out.2.2.1.size)), s73 _ _ (by omega) bb⟩
                clear hW8 s70 s71 s72 s73 e0 e1 e2 e3 e4 e5 e6 g0 g1 g2 g3 g4 g5 g6 HC7 HC6
                have e0 : W8.cell? ⟨w3.heap.size, 0, none⟩ = some (.int .i64 rk) := by rw [cell_of_heap HC8.out.1]; rfl
                have e1 : W8.cell? ⟨w3.heap.size, 1, none⟩ = some (.string rt) := by rw [cell_of_heap HC8.out.1]; rfl
                have e2 : W8.cell? ⟨w3.heap.size, 2, none⟩ = some (.int .i64 rx) := by rw [cell_of_heap HC8.out.1]; rfl
                have e3 : W8.cell? ⟨w3.heap.size, 3, none⟩ = some (.int .i64 rn) := by rw [cell_of_heap HC8.out.1]; rfl
                have e4 : W8.cell? ⟨w3.heap.size, 4, none⟩ = some (.string ru) := by rw [cell_of_heap HC8.out.1]; rfl
                have e5 : W8.cell? ⟨w3.heap.size, 5, none⟩ = some (.int .i64 rc) := by rw [cell_of_heap HC8.out.1]; rfl
                have e6 : W8.cell? ⟨w3.heap.size, 6, none⟩ = some (.slice x3 y3 z3) := by rw [cell_of_heap HC8.out.1]; rfl
                have ba : Below W8.heap.size W8 (W8.alloc (.cells #[.int .i64 rk, .string rt, .int .i64 rx, .int .i64 rn, .string ru, .int .i64 rc, .slice x3 y3 z3] 33)) := (Below.refl _ _).alloc (Nat.le_refl _) _
                have b9 : Below w.heap.size w (W8.alloc (.cells #[.int .i64 rk, .string rt, .int .i64 rx, .int .i64 rn, .string ru, .int .i64 rc, .slice x3 y3 z3] 33)) := HC8.out.2.2.2.1.trans (ba.mono HC8.out.2.2.2.1.size)
                have b9r : Below wr.heap.size wr (W8.alloc (.cells #[.int .i64 rk, .string rt, .int .i64 rx, .int .i64 rn, .string ru, .int .i64 rc, .slice x3 y3 z3] 33)) := HC8.out.2.2.2.2.trans (ba.mono HC8.out.2.2.2.2.size)
                have HQ : Hid (OwnO (W8.alloc (.cells #[.int .i64 rk, .string rt, .int .i64 rx, .int .i64 rn, .string ru, .int .i64 rc, .slice x3 y3 z3] 33)) w.heap.size (.slice up um uc) D ∧ OpAt (W8.alloc (.cells #[.int .i64 rk, .string rt, .int .i64 rx, .int .i64 rn, .string ru, .int .i64 rc, .slice x3 y3 z3] 33)) W8.heap.size 0 (rk, rt, (rx, rn, ru), rc, x3, y3, z3) ∧ KeepA W8 (W8.alloc (.cells #[.int .i64 rk, .string rt, .int .i64 rx, .int .i64 rn, .string ru, .int .i64 rc, .slice x3 y3 z3] 33))) := ⟨owns_below HO.out.1 b9r, ⟨by simp, by simp, by simp, by simp, by simp, by simp, by simp⟩, keepA_below ba⟩
                have hge : Hid (∀ q, (Value.slice up um uc).ownBlock = some q → w.heap.size ≤ q) := fun q hq => (owns_block HQ.out.1 q hq).1
                have hDl := Hid.mk8 HO.out.2.2.2
                have HZ1 : Hid (totS (E.take (k + 1)) = z + L) := by rw [← HL.out]; exact HT.out.2
                clear ba b9r
                go_wp2_with (at_builtin; refine wpList_append_ops rfl (.tmp 79) (.tmp 81) rfl w.heap.size (.slice up um uc) D rfl HQ.out.1 W8.heap.size 1 (rk, rt, (rx, rn, ru), rc, x3, y3, z3) rfl HQ.out.2.1 hDl.out b9.size ?_; intro v8 w8 own8 gr8 hat8; have b10 : Below w.heap.size w w8 := b9.grown gr8 b9.size (fun q hq => hge.out q hq); have HS8 : Hid (SlI E F T w w8 v8 (k + 1)) := HUP.out W8 w8 v8 (rk, rt, (rx, rn, ru), rc, x3, y3, z3) HC8.out.2.2.1 (fun q cur hq => (keepA_grownO HQ.out.1 gr8 q cur ((HQ.out.2.2 q cur hq).trans hq)).trans (HQ.out.2.2 q cur hq)) own8 b10 ⟨by rw [HP.out], by rw [HP.out], by rw [HP.out], by rw [HP.out], Or.inr (by rw [HEA.out.1]; exact HC8.out.2.1)⟩; obtain ⟨p8, m8, c8, e8⟩ : ∃ p m c, v8 = .slice p m c := (by obtain ⟨p, c, h, _⟩ := own_rowO own8; exact ⟨p, _, c, h⟩); subst e8; clear own8 gr8 hat8 b10 b9 HQ)
                go_roundw
                case rel => exact ⟨k + 1, z + L, by omega, by go_num, by go_num, HZ1.out, ⟨_, _, _, rfl⟩, HS8.out⟩
                case measure => simp [RowKit.intOf]; omega
              · have hfp : 0 < f := h0
                have hhp : ¬ hh < L := h9
                have hfI : (f : Int) > 0 := by omega
                have hhI : ¬ (hh : Int) < (L : Int) := by omega
                have cA := cC1.out hfp
                have HP := Hid.mk8 HPV.out
                rw [if_neg hhp, if_pos hfp] at HP
                clear cC1 cC2 HPV h0 h9
                have HEA := Hid.mk8 (HA.out)
                obtain ⟨AL, hAL⟩ : ∃ x, e.A.length = x := ⟨_, rfl⟩
                rw [hAL] at c6 cl HW cA
                have HB3 : Hid (∀ w3, Below wr.heap.size wr w3 → (OpAt w3 b (off + k * 7) (e.k, e.t, e.v, e.c, sp, AL, sc)) ∧ Below w.heap.size w w3) := fun w3 b3 => ⟨OpAt.below (w := wr) ⟨c0, c1, c2, c3, c4, c5, c6⟩ b3, HO.out.2.2.1.trans (b3.mono HO.out.2.2.1.size)⟩
                clear hAL HA
                have cl' : Calls Tryz.prog 97 #[.agg #[.int .i64 e.k, .string e.t, .int .i64 e.v.1, .int .i64 e.v.2.1, .string e.v.2.2, .int .i64 e.c, .slice sp AL sc]] wr fun r w' => r = .returned (.int .i64 L) ∧ Below wr.heap.size wr w' := cl
                clear cl
                simp only [slV] at c6
                go_wp2_with fail
                refine cl'.mono ?_; rintro r w3 ⟨rfl, b3⟩
                obtain ⟨⟨d0, d1, d2, d3, d4, d5, d6⟩, bw3⟩ := HB3.out w3 b3
                simp only [slV] at d6
                have HK3 : Hid (KeepA wr w3 ∧ Below wr.heap.size wr w3) := ⟨keepA_below b3, b3⟩
                clear cl' c0 c1 c2 c3 c4 c5 c6 HB3 b3
                have bx := (Below.refl w3.heap.size w3).alloc (Nat.le_refl _) (.cells #[.int .i64 e.k, .string e.t, .int .i64 e.v.1, .int .i64 e.v.2.1, .string e.v.2.2, .int .i64 e.c, .slice sp AL sc] 33)
                have bw4 := HK3.out.2.trans (bx.mono HK3.out.2.size)
                have c7 := cA (w3.alloc (.cells #[.int .i64 e.k, .string e.t, .int .i64 e.v.1, .int .i64 e.v.2.1, .string e.v.2.2, .int .i64 e.c, .slice sp AL sc] 33)) bw4
                obtain ⟨P1, hP1⟩ : ∃ x, tl7 e f = x := ⟨_, rfl⟩
                obtain ⟨Q1, hQ1⟩ : ∃ x, hd7 e f = x := ⟨_, rfl⟩
                have HP1 : Hid (tl7 e f = P1 ∧ P1.A = e.A) := ⟨hP1, by rw [← hP1]; exact HEA.out.2 hfp⟩
                rw [hP1, hQ1] at c7
                rw [hP1] at HP
                clear hP1 hQ1 cA
                obtain ⟨pk, pt, ⟨px, pn, pu⟩, pc, pA⟩ := P1
                obtain ⟨qk, qt, ⟨qx, qn, qu⟩, qc, qA⟩ := Q1
                go_wp2_with fail
                refine c7.mono ?_; rintro r w5 ⟨s1, s2, rfl, o1, o2, b5⟩
                obtain ⟨x2, y2, z2, rfl⟩ : ∃ x y z, s2 = .slice x y z := by obtain ⟨q, c', e1, _⟩ := (own_RN o2).row.val; exact ⟨_, _, _, e1⟩
                have hblk : w5.heap[w3.heap.size]? = some (.cells #[.int .i64 e.k, .string e.t, .int .i64 e.v.1, .int .i64 e.v.2.1, .string e.v.2.2, .int .i64 e.c, .slice sp AL sc] 33 (0, 0)) := heap_below b5 (heap_alloc_new w3 _)
                have e0 : w5.cell? ⟨w3.heap.size, 0, none⟩ = some (.int .i64 e.k) := by rw [cell_of_heap hblk]; rfl
                have e1 : w5.cell? ⟨w3.heap.size, 1, none⟩ = some (.string e.t) := by rw [cell_of_heap hblk]; rfl
                have e2 : w5.cell? ⟨w3.heap.size, 2, none⟩ = some (.int .i64 e.v.1) := by rw [cell_of_heap hblk]; rfl
                have e3 : w5.cell? ⟨w3.heap.size, 3, none⟩ = some (.int .i64 e.v.2.1) := by rw [cell_of_heap hblk]; rfl
                have e4 : w5.cell? ⟨w3.heap.size, 4, none⟩ = some (.string e.v.2.2) := by rw [cell_of_heap hblk]; rfl
                have e5 : w5.cell? ⟨w3.heap.size, 5, none⟩ = some (.int .i64 e.c) := by rw [cell_of_heap hblk]; rfl
                have e6 : w5.cell? ⟨w3.heap.size, 6, none⟩ = some (.slice sp AL sc) := by rw [cell_of_heap hblk]; rfl
                have g0 : w5.frozen? ⟨w3.heap.size, 0, none⟩ = false := frozen_of_row w5 _ 0 _ _ hblk
                have g1 : w5.frozen? ⟨w3.heap.size, 1, none⟩ = false := frozen_of_row w5 _ 1 _ _ hblk
                have g2 : w5.frozen? ⟨w3.heap.size, 2, none⟩ = false := frozen_of_row w5 _ 2 _ _ hblk
                have g3 : w5.frozen? ⟨w3.heap.size, 3, none⟩ = false := frozen_of_row w5 _ 3 _ _ hblk
                have g4 : w5.frozen? ⟨w3.heap.size, 4, none⟩ = false := frozen_of_row w5 _ 4 _ _ hblk
                have g5 : w5.frozen? ⟨w3.heap.size, 5, none⟩ = false := frozen_of_row w5 _ 5 _ _ hblk
                have g6 : w5.frozen? ⟨w3.heap.size, 6, none⟩ = false := frozen_of_row w5 _ 6 _ _ hblk
                have HC5 : Hid (w5.heap[w3.heap.size]? = some (.cells #[.int .i64 e.k, .string e.t, .int .i64 e.v.1, .int .i64 e.v.2.1, .string e.v.2.2, .int .i64 e.c, .slice sp AL sc] 33 (0, 0)) ∧ OwnA w5 (w3.alloc (.cells #[.int .i64 e.k, .string e.t, .int .i64 e.v.1, .int .i64 e.v.2.1, .string e.v.2.2, .int .i64 e.c, .slice sp AL sc] 33)).heap.size (.slice x2 y2 z2) e.A ∧ Below (w3.alloc (.cells #[.int .i64 e.k, .string e.t, .int .i64 e.v.1, .int .i64 e.v.2.1, .string e.v.2.2, .int .i64 e.c, .slice sp AL sc] 33)).heap.size (w3.alloc (.cells #[.int .i64 e.k, .string e.t, .int .i64 e.v.1, .int .i64 e.v.2.1, .string e.v.2.2, .int .i64 e.c, .slice sp AL sc] 33)) w5 ∧ Below wr.heap.size wr (w3.alloc (.cells #[.int .i64 e.k, .string e.t, .int .i64 e.v.1, .int .i64 e.v.2.1, .string e.v.2.2, .int .i64 e.c, .slice sp AL sc] 33))) := ⟨hblk, o2, b5, bw4⟩
                clear c7 o1 o2 b5 hblk d0 d1 d2 d3 d4 d5 d6 bw4
                go_upto_region 16 with fail
                obtain ⟨W6, hW6⟩ : ∃ W, W = (((((((w5.setCell ⟨w3.heap.size, 0, none⟩ (.int .i64 pk)).setCell ⟨w3.heap.size, 1, none⟩ (.string pt)).setCell ⟨w3.heap.size, 2, none⟩ (.int .i64 px)).setCell ⟨w3.heap.size, 3, none⟩ (.int .i64 pn)).setCell ⟨w3.heap.size, 4, none⟩ (.string pu)).setCell ⟨w3.heap.size, 5, none⟩ (.int .i64 pc)).setCell ⟨w3.heap.size, 6, none⟩ (.slice x2 y2 z2)) := ⟨_, rfl⟩
                obtain ⟨s70, s71, s72, s73⟩ := store7 (pk, pt, (px, pn, pu), pc, x2, y2, z2) HC5.out.1 rfl hW6
                rw [← hW6]
                have hzz5 := HC5.out.2.2.1.size
                have hzz4 := HC5.out.2.2.2.size
                have hzw : w.heap.size ≤ w3.heap.size := bw3.size
                have hz34 : (w3.alloc (.cells #[.int .i64 e.k, .string e.t, .int .i64 e.v.1, .int .i64 e.v.2.1, .string e.v.2.2, .int .i64 e.c, .slice sp AL sc] 33)).heap.size = w3.heap.size + 1 := by rw [World.size_alloc]
                have hzr : wr.heap.size ≤ w3.heap.size := HK3.out.2.size
                have HC6 : Hid (W6.heap[w3.heap.size]? = some (.cells (ovC (pk, pt, (px, pn, pu), pc, x2, y2, z2)) 33 (0, 0)) ∧ OwnA W6 w.heap.size (.slice x2 y2 z2) e.A ∧ KeepA wr W6 ∧ Below w.heap.size w W6 ∧ Below wr.heap.size wr W6) := by
                  have k5 : KeepA wr w5 := fun k cur hk => by
                    have h1 := keepA_below HC5.out.2.2.2 k cur hk
                    exact (keepA_below HC5.out.2.2.1 k cur (h1.trans hk)).trans h1
                  have bb : Below wr.heap.size wr w5 := HC5.out.2.2.2.trans (HC5.out.2.2.1.mono hzz4)
                  exact ⟨s70, own_weaken (owns_same HC5.out.2.1 fun k hk => s72 k (by have := (owns_block HC5.out.2.1 k hk).1; omega)) (by omega), fun k cur hk => (s71 k cur ((k5 k cur hk).trans hk)).trans (k5 k cur hk), s73 _ _ (by omega) (HO.out.2.2.1.trans (bb.mono HO.out.2.2.1.size)), s73 _ _ (by omega) bb⟩
                clear hW6 s70 s71 s72 s73 e0 e1 e2 e3 e4 e5 e6 g0 g1 g2 g3 g4 g5 g6 HC5 hzz5 hzz4 hz34 bx
                have e0 : W6.cell? ⟨w3.heap.size, 0, none⟩ = some (.int .i64 pk) := by rw [cell_of_heap HC6.out.1]; rfl
                have e1 : W6.cell? ⟨w3.heap.size, 1, none⟩ = some (.string pt) := by rw [cell_of_heap HC6.out.1]; rfl
                have e2 : W6.cell? ⟨w3.heap.size, 2, none⟩ = some (.int .i64 px) := by rw [cell_of_heap HC6.out.1]; rfl
                have e3 : W6.cell? ⟨w3.heap.size, 3, none⟩ = some (.int .i64 pn) := by rw [cell_of_heap HC6.out.1]; rfl
                have e4 : W6.cell? ⟨w3.heap.size, 4, none⟩ = some (.string pu) := by rw [cell_of_heap HC6.out.1]; rfl
                have e5 : W6.cell? ⟨w3.heap.size, 5, none⟩ = some (.int .i64 pc) := by rw [cell_of_heap HC6.out.1]; rfl
                have e6 : W6.cell? ⟨w3.heap.size, 6, none⟩ = some (.slice x2 y2 z2) := by rw [cell_of_heap HC6.out.1]; rfl
                have ba : Below W6.heap.size W6 (W6.alloc (.cells #[.int .i64 pk, .string pt, .int .i64 px, .int .i64 pn, .string pu, .int .i64 pc, .slice x2 y2 z2] 33)) := (Below.refl _ _).alloc (Nat.le_refl _) _
                have b9 : Below w.heap.size w (W6.alloc (.cells #[.int .i64 pk, .string pt, .int .i64 px, .int .i64 pn, .string pu, .int .i64 pc, .slice x2 y2 z2] 33)) := HC6.out.2.2.2.1.trans (ba.mono HC6.out.2.2.2.1.size)
                have b9r : Below wr.heap.size wr (W6.alloc (.cells #[.int .i64 pk, .string pt, .int .i64 px, .int .i64 pn, .string pu, .int .i64 pc, .slice x2 y2 z2] 33)) := HC6.out.2.2.2.2.trans (ba.mono HC6.out.2.2.2.2.size)
                have HQ : Hid (OwnO (W6.alloc (.cells #[.int .i64 pk, .string pt, .int .i64 px, .int .i64 pn, .string pu, .int .i64 pc, .slice x2 y2 z2] 33)) w.heap.size (.slice up um uc) D ∧ OpAt (W6.alloc (.cells #[.int .i64 pk, .string pt, .int .i64 px, .int .i64 pn, .string pu, .int .i64 pc, .slice x2 y2 z2] 33)) W6.heap.size 0 (pk, pt, (px, pn, pu), pc, x2, y2, z2) ∧ KeepA W6 (W6.alloc (.cells #[.int .i64 pk, .string pt, .int .i64 px, .int .i64 pn, .string pu, .int .i64 pc, .slice x2 y2 z2] 33))) := ⟨owns_below HO.out.1 b9r, ⟨by simp, by simp, by simp, by simp, by simp, by simp, by simp⟩, keepA_below ba⟩
                have hge : Hid (∀ q, (Value.slice up um uc).ownBlock = some q → w.heap.size ≤ q) := fun q hq => (owns_block HQ.out.1 q hq).1
                have hDl := Hid.mk8 HO.out.2.2.2
                have HZ1 : Hid (totS (E.take (k + 1)) = z + L) := by rw [← HL.out]; exact HT.out.2
                clear ba b9r
                go_wp2_with (at_builtin; refine wpList_append_ops rfl (.tmp 79) (.tmp 81) rfl w.heap.size (.slice up um uc) D rfl HQ.out.1 W6.heap.size 1 (pk, pt, (px, pn, pu), pc, x2, y2, z2) rfl HQ.out.2.1 hDl.out b9.size ?_; intro v8 w8 own8 gr8 hat8; have b10 : Below w.heap.size w w8 := b9.grown gr8 b9.size (fun q hq => hge.out q hq); have HS8 : Hid (SlI E F T w w8 v8 (k + 1)) := HUP.out W6 w8 v8 (pk, pt, (px, pn, pu), pc, x2, y2, z2) HC6.out.2.2.1 (fun q cur hq => (keepA_grownO HQ.out.1 gr8 q cur ((HQ.out.2.2 q cur hq).trans hq)).trans (HQ.out.2.2 q cur hq)) own8 b10 ⟨by rw [HP.out], by rw [HP.out], by rw [HP.out], by rw [HP.out], Or.inr (by rw [HEA.out.1]; exact HC6.out.2.1)⟩; obtain ⟨p8, m8, c8, e8⟩ : ∃ p m c, v8 = .slice p m c := (by obtain ⟨p, c, h, _⟩ := own_rowO own8; exact ⟨p, _, c, h⟩); subst e8; clear own8 gr8 hat8 b10 b9 HQ)
                go_roundw
                case rel => exact ⟨k + 1, z + L, by omega, by go_num, by go_num, HZ1.out, ⟨_, _, _, rfl⟩, HS8.out⟩
                case measure => simp [RowKit.intOf]; omega
            · by_cases h9 : hh < L
              · have hfp : ¬ 0 < f := h0
                have hhp : hh < L := h9
                have hfI : ¬ (f : Int) > 0 := by omega
                have hhI : (hh : Int) < (L : Int) := by omega
                have cB := cC2.out hhp
                have HP := Hid.mk8 HPV.out
                rw [if_pos hhp, if_neg hfp] at HP
                clear cC1 cC2 HPV h0 h9
                rw [if_neg hfp] at cB
                have HEA := Hid.mk8 (HA.out)
                obtain ⟨AL, hAL⟩ : ∃ x, e.A.length = x := ⟨_, rfl⟩
                rw [hAL] at c6 cl HW
                have HB3 : Hid (∀ w3, Below wr.heap.size wr w3 → (OpAt w3 b (off + k * 7) (e.k, e.t, e.v, e.c, sp, AL, sc)) ∧ Below w.heap.size w w3) := fun w3 b3 => ⟨OpAt.below (w := wr) ⟨c0, c1, c2, c3, c4, c5, c6⟩ b3, HO.out.2.2.1.trans (b3.mono HO.out.2.2.1.size)⟩
                clear hAL HA
                have cl' : Calls Tryz.prog 97 #[.agg #[.int .i64 e.k, .string e.t, .int .i64 e.v.1, .int .i64 e.v.2.1, .string e.v.2.2, .int .i64 e.c, .slice sp AL sc]] wr fun r w' => r = .returned (.int .i64 L) ∧ Below wr.heap.size wr w' := cl
                clear cl
                simp only [slV] at c6
                go_wp2_with fail
                refine cl'.mono ?_; rintro r w3 ⟨rfl, b3⟩
                obtain ⟨⟨d0, d1, d2, d3, d4, d5, d6⟩, bw3⟩ := HB3.out w3 b3
                simp only [slV] at d6
                have HK3 : Hid (KeepA wr w3 ∧ Below wr.heap.size wr w3) := ⟨keepA_below b3, b3⟩
                clear cl' c0 c1 c2 c3 c4 c5 c6 HB3 b3
                have bx := (Below.refl w3.heap.size w3).alloc (Nat.le_refl _) (.cells #[.int .i64 e.k, .string e.t, .int .i64 e.v.1, .int .i64 e.v.2.1, .string e.v.2.2, .int .i64 e.c, .slice sp AL sc] 33)
                have bw4 := HK3.out.2.trans (bx.mono HK3.out.2.size)
                have c8 := cB (w3.alloc (.cells #[.int .i64 e.k, .string e.t, .int .i64 e.v.1, .int .i64 e.v.2.1, .string e.v.2.2, .int .i64 e.c, .slice sp AL sc] 33)) (.slice sp AL sc) e rfl (HO.out.2.2.1.trans (bw4.mono HO.out.2.2.1.size)) (HW.out.below (HO.out.2.2.1.trans (bw4.mono HO.out.2.2.1.size)))
                obtain ⟨P2, hP2⟩ : ∃ x, hd7 e ((hh : Int) - f) = x := ⟨_, rfl⟩
                obtain ⟨Q2, hQ2⟩ : ∃ x, tl7 e ((hh : Int) - f) = x := ⟨_, rfl⟩
                rw [hP2, hQ2] at c8
                rw [hP2] at HP
                clear hP2 hQ2 cB
                obtain ⟨rk, rt, ⟨rx, rn, ru⟩, rc, rA⟩ := P2
                obtain ⟨tk, tt, ⟨tx, tn, tu⟩, tc, tA⟩ := Q2
                go_wp2_with fail
                refine c8.mono ?_; rintro r w7 ⟨s3, s4, rfl, o3, o4, b7⟩
                obtain ⟨x3, y3, z3, rfl⟩ : ∃ x y z, s3 = .slice x y z := by obtain ⟨q, c', e1, _⟩ := (own_RN o3).row.val; exact ⟨_, _, _, e1⟩
                have hblk : w7.heap[w3.heap.size]? = some (.cells #[.int .i64 e.k, .string e.t, .int .i64 e.v.1, .int .i64 e.v.2.1, .string e.v.2.2, .int .i64 e.c, .slice sp AL sc] 33 (0, 0)) := heap_below b7 (heap_alloc_new w3 _)
                have e0 : w7.cell? ⟨w3.heap.size, 0, none⟩ = some (.int .i64 e.k) := by rw [cell_of_heap hblk]; rfl
                have e1 : w7.cell? ⟨w3.heap.size, 1, none⟩ = some (.string e.t) := by rw [cell_of_heap hblk]; rfl
                have e2 : w7.cell? ⟨w3.heap.size, 2, none⟩ = some (.int .i64 e.v.1) := by rw [cell_of_heap hblk]; rfl
                have e3 : w7.cell? ⟨w3.heap.size, 3, none⟩ = some (.int .i64 e.v.2.1) := by rw [cell_of_heap hblk]; rfl
                have e4 : w7.cell? ⟨w3.heap.size, 4, none⟩ = some (.string e.v.2.2) := by rw [cell_of_heap hblk]; rfl
                have e5 : w7.cell? ⟨w3.heap.size, 5, none⟩ = some (.int .i64 e.c) := by rw [cell_of_heap hblk]; rfl
                have e6 : w7.cell? ⟨w3.heap.size, 6, none⟩ = some (.slice sp AL sc) := by rw [cell_of_heap hblk]; rfl
                have g0 : w7.frozen? ⟨w3.heap.size, 0, none⟩ = false := frozen_of_row w7 _ 0 _ _ hblk
                have g1 : w7.frozen? ⟨w3.heap.size, 1, none⟩ = false := frozen_of_row w7 _ 1 _ _ hblk
                have g2 : w7.frozen? ⟨w3.heap.size, 2, none⟩ = false := frozen_of_row w7 _ 2 _ _ hblk
                have g3 : w7.frozen? ⟨w3.heap.size, 3, none⟩ = false := frozen_of_row w7 _ 3 _ _ hblk
                have g4 : w7.frozen? ⟨w3.heap.size, 4, none⟩ = false := frozen_of_row w7 _ 4 _ _ hblk
                have g5 : w7.frozen? ⟨w3.heap.size, 5, none⟩ = false := frozen_of_row w7 _ 5 _ _ hblk
                have g6 : w7.frozen? ⟨w3.heap.size, 6, none⟩ = false := frozen_of_row w7 _ 6 _ _ hblk
                have HC7 : Hid (w7.heap[w3.heap.size]? = some (.cells #[.int .i64 e.k, .string e.t, .int .i64 e.v.1, .int .i64 e.v.2.1, .string e.v.2.2, .int .i64 e.c, .slice sp AL sc] 33 (0, 0)) ∧ OwnA w7 (w3.alloc (.cells #[.int .i64 e.k, .string e.t, .int .i64 e.v.1, .int .i64 e.v.2.1, .string e.v.2.2, .int .i64 e.c, .slice sp AL sc] 33)).heap.size (.slice x3 y3 z3) e.A ∧ Below (w3.alloc (.cells #[.int .i64 e.k, .string e.t, .int .i64 e.v.1, .int .i64 e.v.2.1, .string e.v.2.2, .int .i64 e.c, .slice sp AL sc] 33)).heap.size (w3.alloc (.cells #[.int .i64 e.k, .string e.t, .int .i64 e.v.1, .int .i64 e.v.2.1, .string e.v.2.2, .int .i64 e.c, .slice sp AL sc] 33)) w7 ∧ Below wr.heap.size wr (w3.alloc (.cells #[.int .i64 e.k, .string e.t, .int .i64 e.v.1, .int .i64 e.v.2.1, .string e.v.2.2, .int .i64 e.c, .slice sp AL sc] 33))) := ⟨hblk, o3, b7, bw4⟩
                clear c8 o3 o4 b7 hblk d0 d1 d2 d3 d4 d5 d6 bw4
                go_upto_region 18 with fail
                obtain ⟨W8, hW8⟩ : ∃ W, W = (((((((w7.setCell ⟨w3.heap.size, 0, none⟩ (.int .i64 rk)).setCell ⟨w3.heap.size, 1, none⟩ (.string rt)).setCell ⟨w3.heap.size, 2, none⟩ (.int .i64 rx)).setCell ⟨w3.heap.size, 3, none⟩ (.int .i64 rn)).setCell ⟨w3.heap.size, 4, none⟩ (.string ru)).setCell ⟨w3.heap.size, 5, none⟩ (.int .i64 rc)).setCell ⟨w3.heap.size, 6, none⟩ (.slice x3 y3 z3)) := ⟨_, rfl⟩
                obtain ⟨s70, s71, s72, s73⟩ := store7 (rk, rt, (rx, rn, ru), rc, x3, y3, z3) HC7.out.1 rfl hW8
                rw [← hW8]
                have HC8 : Hid (W8.heap[w3.heap.size]? = some (.cells (ovC (rk, rt, (rx, rn, ru), rc, x3, y3, z3)) 33 (0, 0)) ∧ OwnA W8 w.heap.size (.slice x3 y3 z3) e.A ∧ KeepA wr W8 ∧ Below w.heap.size w W8 ∧ Below wr.heap.size wr W8) := by
                  have hzz5 := HC7.out.2.2.1.size
                  have hzz4 := HC7.out.2.2.2.size
                  have hz34 : (w3.alloc (.cells #[.int .i64 e.k, .string e.t, .int .i64 e.v.1, .int .i64 e.v.2.1, .string e.v.2.2, .int .i64 e.c, .slice sp AL sc] 33)).heap.size = w3.heap.size + 1 := by rw [World.size_alloc]
                  have hz6 : w3.heap.size < (w3.alloc (.cells #[.int .i64 e.k, .string e.t, .int .i64 e.v.1, .int .i64 e.v.2.1, .string e.v.2.2, .int .i64 e.c, .slice sp AL sc] 33)).heap.size := by omega
                  have hzw : w.heap.size ≤ w3.heap.size := bw3.size
                  have hzr : wr.heap.size ≤ w3.heap.size := HK3.out.2.size
                  have k5 : KeepA wr w7 := fun k cur hk => by
                    have h1 := keepA_below HC7.out.2.2.2 k cur hk
                    exact (keepA_below HC7.out.2.2.1 k cur (h1.trans hk)).trans h1
                  have bb : Below wr.heap.size wr w7 := HC7.out.2.2.2.trans (HC7.out.2.2.1.mono hzz4)
                  exact ⟨s70, own_weaken (owns_same HC7.out.2.1 fun k hk => s72 k (by have := (owns_block HC7.out.2.1 k hk).1; omega)) (by omega), fun k cur hk => (s71 k cur ((k5 k cur hk).trans hk)).trans (k5 k cur hk), s73 _ _ (by omega) (HO.out.2.2.1.trans (bb.mono HO.out.2.2.1.size)), s73 _ _ (by omega) bb⟩
                clear hW8 s70 s71 s72 s73 e0 e1 e2 e3 e4 e5 e6 g0 g1 g2 g3 g4 g5 g6 HC7 bx
                have e0 : W8.cell? ⟨w3.heap.size, 0, none⟩ = some (.int .i64 rk) := by rw [cell_of_heap HC8.out.1]; rfl
                have e1 : W8.cell? ⟨w3.heap.size, 1, none⟩ = some (.string rt) := by rw [cell_of_heap HC8.out.1]; rfl
                have e2 : W8.cell? ⟨w3.heap.size, 2, none⟩ = some (.int .i64 rx) := by rw [cell_of_heap HC8.out.1]; rfl
                have e3 : W8.cell? ⟨w3.heap.size, 3, none⟩ = some (.int .i64 rn) := by rw [cell_of_heap HC8.out.1]; rfl
                have e4 : W8.cell? ⟨w3.heap.size, 4, none⟩ = some (.string ru) := by rw [cell_of_heap HC8.out.1]; rfl
                have e5 : W8.cell? ⟨w3.heap.size, 5, none⟩ = some (.int .i64 rc) := by rw [cell_of_heap HC8.out.1]; rfl
                have e6 : W8.cell? ⟨w3.heap.size, 6, none⟩ = some (.slice x3 y3 z3) := by rw [cell_of_heap HC8.out.1]; rfl
                have ba : Below W8.heap.size W8 (W8.alloc (.cells #[.int .i64 rk, .string rt, .int .i64 rx, .int .i64 rn, .string ru, .int .i64 rc, .slice x3 y3 z3] 33)) := (Below.refl _ _).alloc (Nat.le_refl _) _
                have b9 : Below w.heap.size w (W8.alloc (.cells #[.int .i64 rk, .string rt, .int .i64 rx, .int .i64 rn, .string ru, .int .i64 rc, .slice x3 y3 z3] 33)) := HC8.out.2.2.2.1.trans (ba.mono HC8.out.2.2.2.1.size)
                have b9r : Below wr.heap.size wr (W8.alloc (.cells #[.int .i64 rk, .string rt, .int .i64 rx, .int .i64 rn, .string ru, .int .i64 rc, .slice x3 y3 z3] 33)) := HC8.out.2.2.2.2.trans (ba.mono HC8.out.2.2.2.2.size)
                have HQ : Hid (OwnO (W8.alloc (.cells #[.int .i64 rk, .string rt, .int .i64 rx, .int .i64 rn, .string ru, .int .i64 rc, .slice x3 y3 z3] 33)) w.heap.size (.slice up um uc) D ∧ OpAt (W8.alloc (.cells #[.int .i64 rk, .string rt, .int .i64 rx, .int .i64 rn, .string ru, .int .i64 rc, .slice x3 y3 z3] 33)) W8.heap.size 0 (rk, rt, (rx, rn, ru), rc, x3, y3, z3) ∧ KeepA W8 (W8.alloc (.cells #[.int .i64 rk, .string rt, .int .i64 rx, .int .i64 rn, .string ru, .int .i64 rc, .slice x3 y3 z3] 33))) := ⟨owns_below HO.out.1 b9r, ⟨by simp, by simp, by simp, by simp, by simp, by simp, by simp⟩, keepA_below ba⟩
                have hge : Hid (∀ q, (Value.slice up um uc).ownBlock = some q → w.heap.size ≤ q) := fun q hq => (owns_block HQ.out.1 q hq).1
                have hDl := Hid.mk8 HO.out.2.2.2
                have HZ1 : Hid (totS (E.take (k + 1)) = z + L) := by rw [← HL.out]; exact HT.out.2
                clear ba b9r
                go_wp2_with (at_builtin; refine wpList_append_ops rfl (.tmp 79) (.tmp 81) rfl w.heap.size (.slice up um uc) D rfl HQ.out.1 W8.heap.size 1 (rk, rt, (rx, rn, ru), rc, x3, y3, z3) rfl HQ.out.2.1 hDl.out b9.size ?_; intro v8 w8 own8 gr8 hat8; have b10 : Below w.heap.size w w8 := b9.grown gr8 b9.size (fun q hq => hge.out q hq); have HS8 : Hid (SlI E F T w w8 v8 (k + 1)) := HUP.out W8 w8 v8 (rk, rt, (rx, rn, ru), rc, x3, y3, z3) HC8.out.2.2.1 (fun q cur hq => (keepA_grownO HQ.out.1 gr8 q cur ((HQ.out.2.2 q cur hq).trans hq)).trans (HQ.out.2.2 q cur hq)) own8 b10 ⟨by rw [HP.out], by rw [HP.out], by rw [HP.out], by rw [HP.out], Or.inr (by rw [HEA.out.1]; exact HC8.out.2.1)⟩; obtain ⟨p8, m8, c8, e8⟩ : ∃ p m c, v8 = .slice p m c := (by obtain ⟨p, c, h, _⟩ := own_rowO own8; exact ⟨p, _, c, h⟩); subst e8; clear own8 gr8 hat8 b10 b9 HQ)
                go_roundw
                case rel => exact ⟨k + 1, z + L, by omega, by go_num, by go_num, HZ1.out, ⟨_, _, _, rfl⟩, HS8.out⟩
                case measure => simp [RowKit.intOf]; omega
              · have hfp : ¬ 0 < f := h0
                have hhp : ¬ hh < L := h9
                have hfI : ¬ (f : Int) > 0 := by omega
                have hhI : ¬ (hh : Int) < (L : Int) := by omega
                have HP := Hid.mk8 HPV.out
                rw [if_neg hhp, if_neg hfp] at HP
                clear cC1 cC2 HPV h0 h9
                have HEA := Hid.mk8 (HA.out)
                obtain ⟨AL, hAL⟩ : ∃ x, e.A.length = x := ⟨_, rfl⟩
                rw [hAL] at c6 cl HW
                have HB3 : Hid (∀ w3, Below wr.heap.size wr w3 → (OpAt w3 b (off + k * 7) (e.k, e.t, e.v, e.c, sp, AL, sc)) ∧ Below w.heap.size w w3) := fun w3 b3 => ⟨OpAt.below (w := wr) ⟨c0, c1, c2, c3, c4, c5, c6⟩ b3, HO.out.2.2.1.trans (b3.mono HO.out.2.2.1.size)⟩
                clear hAL HA
                have cl' : Calls Tryz.prog 97 #[.agg #[.int .i64 e.k, .string e.t, .int .i64 e.v.1, .int .i64 e.v.2.1, .string e.v.2.2, .int .i64 e.c, .slice sp AL sc]] wr fun r w' => r = .returned (.int .i64 L) ∧ Below wr.heap.size wr w' := cl
                clear cl
                simp only [slV] at c6
                go_wp2_with fail
                refine cl'.mono ?_; rintro r w3 ⟨rfl, b3⟩
                obtain ⟨⟨d0, d1, d2, d3, d4, d5, d6⟩, bw3⟩ := HB3.out w3 b3
                simp only [slV] at d6
                have HK3 : Hid (KeepA wr w3 ∧ Below wr.heap.size wr w3) := ⟨keepA_below b3, b3⟩
                clear cl' c0 c1 c2 c3 c4 c5 c6 HB3 b3
                have bx := (Below.refl w3.heap.size w3).alloc (Nat.le_refl _) (.cells #[.int .i64 e.k, .string e.t, .int .i64 e.v.1, .int .i64 e.v.2.1, .string e.v.2.2, .int .i64 e.c, .slice sp AL sc] 33)
                have bw4 := HK3.out.2.trans (bx.mono HK3.out.2.size)
                have HC9 : Hid (KeepA wr (w3.alloc (.cells #[.int .i64 e.k, .string e.t, .int .i64 e.v.1, .int .i64 e.v.2.1, .string e.v.2.2, .int .i64 e.c, .slice sp AL sc] 33)) ∧ Below w.heap.size w (w3.alloc (.cells #[.int .i64 e.k, .string e.t, .int .i64 e.v.1, .int .i64 e.v.2.1, .string e.v.2.2, .int .i64 e.c, .slice sp AL sc] 33)) ∧ Below wr.heap.size wr (w3.alloc (.cells #[.int .i64 e.k, .string e.t, .int .i64 e.v.1, .int .i64 e.v.2.1, .string e.v.2.2, .int .i64 e.c, .slice sp AL sc] 33))) := ⟨keepA_below bw4, HO.out.2.2.1.trans (bw4.mono HO.out.2.2.1.size), bw4⟩
                clear bw4 bx
                have ba : Below (w3.alloc (.cells #[.int .i64 e.k, .string e.t, .int .i64 e.v.1, .int .i64 e.v.2.1, .string e.v.2.2, .int .i64 e.c, .slice sp AL sc] 33)).heap.size (w3.alloc (.cells #[.int .i64 e.k, .string e.t, .int .i64 e.v.1, .int .i64 e.v.2.1, .string e.v.2.2, .int .i64 e.c, .slice sp AL sc] 33)) ((w3.alloc (.cells #[.int .i64 e.k, .string e.t, .int .i64 e.v.1, .int .i64 e.v.2.1, .string e.v.2.2, .int .i64 e.c, .slice sp AL sc] 33)).alloc (.cells #[.int .i64 e.k, .string e.t, .int .i64 e.v.1, .int .i64 e.v.2.1, .string e.v.2.2, .int .i64 e.c, .slice sp AL sc] 33)) := (Below.refl _ _).alloc (Nat.le_refl _) _
                have b9 : Below w.heap.size w ((w3.alloc (.cells #[.int .i64 e.k, .string e.t, .int .i64 e.v.1, .int .i64 e.v.2.1, .string e.v.2.2, .int .i64 e.c, .slice sp AL sc] 33)).alloc (.cells #[.int .i64 e.k, .string e.t, .int .i64 e.v.1, .int .i64 e.v.2.1, .string e.v.2.2, .int .i64 e.c, .slice sp AL sc] 33)) := HC9.out.2.1.trans (ba.mono HC9.out.2.1.size)
                have b9r : Below wr.heap.size wr ((w3.alloc (.cells #[.int .i64 e.k, .string e.t, .int .i64 e.v.1, .int .i64 e.v.2.1, .string e.v.2.2, .int .i64 e.c, .slice sp AL sc] 33)).alloc (.cells #[.int .i64 e.k, .string e.t, .int .i64 e.v.1, .int .i64 e.v.2.1, .string e.v.2.2, .int .i64 e.c, .slice sp AL sc] 33)) := HC9.out.2.2.trans (ba.mono HC9.out.2.2.size)
                have HQ : Hid (OwnO ((w3.alloc (.cells #[.int .i64 e.k, .string e.t, .int .i64 e.v.1, .int .i64 e.v.2.1, .string e.v.2.2, .int .i64 e.c, .slice sp AL sc] 33)).alloc (.cells #[.int .i64 e.k, .string e.t, .int .i64 e.v.1, .int .i64 e.v.2.1, .string e.v.2.2, .int .i64 e.c, .slice sp AL sc] 33)) w.heap.size (.slice up um uc) D ∧ OpAt ((w3.alloc (.cells #[.int .i64 e.k, .string e.t, .int .i64 e.v.1, .int .i64 e.v.2.1, .string e.v.2.2, .int .i64 e.c, .slice sp AL sc] 33)).alloc (.cells #[.int .i64 e.k, .string e.t, .int .i64 e.v.1, .int .i64 e.v.2.1, .string e.v.2.2, .int .i64 e.c, .slice sp AL sc] 33)) (w3.heap.size + 1) 0 (e.k, e.t, (e.v.1, e.v.2.1, e.v.2.2), e.c, sp, AL, sc) ∧ KeepA (w3.alloc (.cells #[.int .i64 e.k, .string e.t, .int .i64 e.v.1, .int .i64 e.v.2.1, .string e.v.2.2, .int .i64 e.c, .slice sp AL sc] 33)) ((w3.alloc (.cells #[.int .i64 e.k, .string e.t, .int .i64 e.v.1, .int .i64 e.v.2.1, .string e.v.2.2, .int .i64 e.c, .slice sp AL sc] 33)).alloc (.cells #[.int .i64 e.k, .string e.t, .int .i64 e.v.1, .int .i64 e.v.2.1, .string e.v.2.2, .int .i64 e.c, .slice sp AL sc] 33))) := ⟨owns_below HO.out.1 b9r, ⟨by simp, by simp, by simp, by simp, by simp, by simp, by simp⟩, keepA_below ba⟩
                have hge : Hid (∀ q, (Value.slice up um uc).ownBlock = some q → w.heap.size ≤ q) := fun q hq => (owns_block HQ.out.1 q hq).1
                have hDl := Hid.mk8 HO.out.2.2.2
                have HZ1 : Hid (totS (E.take (k + 1)) = z + L) := by rw [← HL.out]; exact HT.out.2
                clear ba b9r
                go_wp2_with (at_builtin; refine wpList_append_ops rfl (.tmp 79) (.tmp 81) rfl w.heap.size (.slice up um uc) D rfl HQ.out.1 (w3.heap.size + 1) 1 (e.k, e.t, (e.v.1, e.v.2.1, e.v.2.2), e.c, sp, AL, sc) rfl HQ.out.2.1 hDl.out b9.size ?_; intro v8 w8 own8 gr8 hat8; have b10 : Below w.heap.size w w8 := b9.grown gr8 b9.size (fun q hq => hge.out q hq); have HS8 : Hid (SlI E F T w w8 v8 (k + 1)) := HUP.out (w3.alloc (.cells #[.int .i64 e.k, .string e.t, .int .i64 e.v.1, .int .i64 e.v.2.1, .string e.v.2.2, .int .i64 e.c, .slice sp AL sc] 33)) w8 v8 (e.k, e.t, (e.v.1, e.v.2.1, e.v.2.2), e.c, sp, AL, sc) HC9.out.1 (fun q cur hq => (keepA_grownO HQ.out.1 gr8 q cur ((HQ.out.2.2 q cur hq).trans hq)).trans (HQ.out.2.2 q cur hq)) own8 b10 ⟨by rw [HP.out], by rw [HP.out], by rw [HP.out], by rw [HP.out], Or.inl (by rw [HEA.out.1]; exact HW.out)⟩; obtain ⟨p8, m8, c8, e8⟩ : ∃ p m c, v8 = .slice p m c := (by obtain ⟨p, c, h, _⟩ := own_rowO own8; exact ⟨p, _, c, h⟩); subst e8; clear own8 gr8 hat8 b10 b9 HQ)
                go_roundw
                case rel => exact ⟨k + 1, z + L, by omega, by go_num, by go_num, HZ1.out, ⟨_, _, _, rfl⟩, HS8.out⟩
                case measure => simp [RowKit.intOf]; omega
          · have HNO : Hid (¬ f < min (T - z) L) := hyes
            obtain ⟨hh, hhq⟩ : ∃ hh : Int, min ((T : Int) - (z : Int)) (L : Int) = hh := ⟨_, rfl⟩
            have hfh : ¬ (f : Int) < hh := by omega
            have hmin : min ((T : Int) - (z : Int)) (L : Int) = hh := hhq
            clear hhq hyes
            have HST : Hid (∀ w', Below wr.heap.size wr w' → SlI E F T w w' (.slice up um uc) (k + 1)) := fun w' bw => HI.out.step0 HT.out.1 (by rw [HZ.out, HL.out, HFQ.out]; exact HNO.out) bw
            have HZ1 : Hid (totS (E.take (k + 1)) = z + L) := by rw [← HL.out]; exact HT.out.2
            clear HI HT HG HW HL HFQ HZ HEQ hbw
            obtain ⟨ek, et, ⟨ex, en, eu⟩, ec, eA⟩ := e
            simp only at c0 c1 c2 c3 c4 c5 c6 cl
            simp only [slV] at c6
            go_wp2_with fail
            refine cl.mono ?_; rintro r w3 ⟨rfl, b3⟩
            have HST3 := Hid.mk8 (HST.out w3 b3)
            clear cl b3 c0 c1 c2 c3 c4 c5 c6 HST
            go_wp2
            go_roundw
            case rel => exact ⟨k + 1, z + L, by omega, by go_num, by go_num, HZ1.out, ⟨_, _, _, rfl⟩, HST3.out⟩
            case measure => simp [RowKit.intOf]; omega
        · have hltI : ¬ (k : Int) < n := by omega
          have hE : E.take k = E := List.take_of_length_le (by rw [HN.out]; omega)
          obtain ⟨⟨D, h1, h2⟩, h3⟩ := HI.out
          rw [hE] at h2
          have HR : Hid (ReO wr (.slice up um uc) (slS F T E)) := ⟨D, own_rowO h1, h2.re h3⟩
          clear h1 h2 HI hE HZ
          go_wp2
          go_ret2
          exact ⟨_, 0, rfl, HF.out _ _ ⟨_, _, _, rfl⟩ HR.out, h3⟩
  · have HF : Hid (∀ w', RsR w' E i j (.slice none 0 0) 9) := fun w' => ⟨fun _ => ⟨rfl, rfl⟩, fun h => absurd h hB, fun h => absurd h hB⟩
    rw [show (sumB E == 0) = false by rw [beq_eq_false_iff_ne]; exact hB] at cD
    clear hB cR
    go_enter Tryz.func48, Tryz.ntmps48
    go_wp2_with fail
    refine cD.mono ?_; rintro r w1 ⟨rfl, d1⟩
    clear cD
    go_wp2
    go_ret2
    exact ⟨_, 9, rfl, HF.out _, d1⟩
end Go.Proofs.YtalfdjglbbmjcaaGreatDoor
