/- What both sides answer of layer 8, told together. Of all lists of operations vellumlaw08.MeasurePlays answers true. -/
import Derived.Test.YtalfdjglbbmjcaaGreatDoorMgi
import Derived.Test.YtalfdjglbbmjcaaGreatDoorMgf

/- What both sides answer of layer 8, told together. -/
namespace Go.Proofs.YtalfdjglbbmjcaaGreatDoor
open Go Go.RowKit Go.Lib
set_option linter.unusedVariables false

theorem shiftx_dle {w w' : World} {B1 B2 C1 C2 : Nat} {v dv : Value} {E : List Op5} {n : Int} (h : DlE w B1 B2 v E) (hn : 0 ≤ n ∧ n ≤ 1099511627776) (hl : E.length + 1 ≤ 2097152) (hf : FitSh E n) (hd : DelV w' C1 C2 dv (shift8 E n)) : DlE w' C1 C2 dv (shift8 E n) ∧ (shift8 E n).length ≤ E.length + 1 ∧ txtS (shift8 E n) ≤ txtS E := by
  by_cases hz : n = 0 ∨ E = []
  · have e : shift8 E n = E := if_pos hz
    rw [e] at hd ⊢
    exact ⟨⟨hd, h.g, h.fit, h.len, h.txt, h.fits⟩, by omega, Nat.le_refl _⟩
  · have e : shift8 E n = canonL (pl7 n :: E) := if_neg hz
    rw [e] at hd ⊢
    have h0 : E ≠ [] := fun h => hz (Or.inr h)
    have ht : txtS (pl7 n :: E) = txtS E := by rw [txtS_cons]; show 0 + _ = _; omega
    obtain ⟨k1, k2, k3⟩ := dle_of hd (fun o ho => (List.mem_cons.1 ho).elim (fun e => e ▸ (pl_good (by omega) (by omega)).1) (h.g o)) (fun o ho => (List.mem_cons.1 ho).elim (fun e => e ▸ pl_fit n) (h.fit o)) (by simpa using hl) (by rw [ht]; exact h.txt) ((fits_sh h0).2 hf)
    exact ⟨k1, by simpa using k2, by rw [← ht]; exact k3⟩
theorem catx_dle {w w2 w' : World} {B1 B2 C1 C2 D1 D2 : Nat} {u v dv : Value} {E F : List Op5} (hE : DlE w B1 B2 u E) (hF : DlE w2 C1 C2 v F) (hl : E.length + F.length ≤ 2097152) (ht : txtS E + txtS F ≤ 4194304) (hf : Fits8 (E ++ F)) (hd : DelV w' D1 D2 dv (canonL (E ++ F))) : DlE w' D1 D2 dv (cat8 E F) ∧ (cat8 E F).length ≤ E.length + F.length ∧ txtS (cat8 E F) ≤ txtS E + txtS F := by
  obtain ⟨h1, h2, h3⟩ := dle_of hd (cat_bounds hE.g hF.g) (fun o ho => (List.mem_append.1 ho).elim (hE.fit o) (hF.fit o)) (by rw [List.length_append]; exact hl) (by rw [txtS_append]; exact ht) hf
  rw [List.length_append] at h2
  rw [txtS_append] at h3
  exact ⟨h1, h2, h3⟩
theorem fitsx_cat {E F : List Op5} : Fits8 (E ++ F) ↔ sumB E + sumB F ≤ 1099511627776 ∧ sumR E + sumR F ≤ 1099511627776 := by
  unfold Fits8; rw [sumB_append, sumR_append]
/-- An answer and the document's, that are told to be one. -/
def TolX (a : Nat → Addr) (W : World) (d er lv : Value) (e : Int) : Prop :=
  (∃ (E : List Op5) (B1 B2 : Nat), er = .nilIface ∧ e = 0 ∧ DlE W B1 B2 d E ∧ ReO W lv E) ∨ (∃ x : Nat, x + 1 ≤ 19 ∧ d = .pointer none ∧ er = errV a x ∧ e = (x : Int) + 1 ∧ ∃ p n c, lv = .slice p n c)
theorem TolX.below {a : Nat → Addr} {W W' : World} {d er lv : Value} {e : Int} (h : TolX a W d er lv e) (b : Below W.heap.size W W') : TolX a W' d er lv e := by
  rcases h with ⟨E, B1, B2, h1, h2, h3, h4⟩ | h
  · exact Or.inl ⟨E, B1, B2, h1, h2, h3.below b, h4.below b⟩
  · exact Or.inr h
theorem TolX.call {a : Nat → Addr} {W : World} {d er lv : Value} {e : Int} (h : TolX a W d er lv e) (hN : Sent a W) :
    Calls Tryz.prog 46 #[d, er, lv, .int .i64 e] W fun r w' => r = .returned (.bool true) ∧ Below W.heap.size W w' := by
  rcases h with ⟨E, B1, B2, rfl, rfl, h3, h4⟩ | ⟨x, hx, rfl, rfl, rfl, hl⟩
  · have := told8_ok d lv E E W hN h3 h4 h3.len (fun o ho => (h3.fit o ho).n)
    rwa [decide_eq_true rfl] at this
  · exact told8_no lv x W hN hx hl
theorem nil_sl : ∃ p n c, (Value.slice none 0 0) = .slice p n c := ⟨_, _, _, rfl⟩
theorem sho_cat {A B : List Op5} (hA : CanO A) (hB : CanO B) : Fits8 (canonL (A ++ B)) ↔ Fits8 (A ++ B) := by
  have h1 := cat_sums hA hB
  rw [fitsx_cat]
  show Fits8 (cat8 A B) ↔ _
  unfold Fits8
  rw [h1.1, h1.2.1]
theorem tolCat {a : Nat → Addr} {w w0 w1 w2 : World} {B1 B2 C1 C2 : Nat} {u v dv er lv : Value} {e : Int} {A B : List Op5} (hA : DlE w B1 B2 u A) (hB : DlE w C1 C2 v B) (cA : CanO A) (cB : CanO B) (hl : A.length + B.length ≤ 2097152) (ht : txtS A + txtS B ≤ 4194304)
    (h1 : CatR a w0 w1 (A ++ B) dv er) (h2 : ShoR w1 w2 (A ++ B) lv e) (b : Below w1.heap.size w1 w2) : TolX a w2 dv er lv e := by
  have hs := sho_cat cA cB
  by_cases hf : Fits8 (A ++ B)
  · obtain ⟨k1, k2⟩ := h1.1 hf
    obtain ⟨q1, _, q3⟩ := h2.1 (hs.2 hf)
    exact Or.inl ⟨cat8 A B, _, _, k1, q1, (catx_dle hA hB hl ht hf (k2.below b)).1, q3⟩
  · obtain ⟨k1, k2⟩ := h1.2 hf
    obtain ⟨q1, q2⟩ := h2.2 (fun h => hf (hs.1 h))
    exact Or.inr ⟨10, by decide, k2, k1, by rw [q1]; rfl, q2 ▸ nil_sl⟩
theorem tolSli {a : Nat → Addr} {w1 w2 : World} {dv er lv : Value} {e i j : Int} {A : List Op5} (hg : ∀ o ∈ A, opE o = 0) (cA : CanO A) (hnn : 0 ≤ sumB A)
    (h1 : SlR a w1 A i j dv er) (h2 : RsR w2 A i j lv e) (b : Below w1.heap.size w1 w2) : TolX a w2 dv er lv e := by
  by_cases h0 : sumB A = 0
  · by_cases hbad : i < 0 ∨ j < i ∨ sumR A < j
    · obtain ⟨k1, k2⟩ := h1.2.1 h0 hbad
      obtain ⟨q1, q2⟩ := h2.2.1 h0 hbad
      exact Or.inr ⟨11, by decide, k1, k2, by rw [q1]; rfl, q2 ▸ nil_sl⟩
    · obtain ⟨k1, L, C1, C2, k2, k3, k4, _, _⟩ := h1.2.2 h0 hbad
      obtain ⟨q1, _, q3⟩ := h2.2.2 h0 hbad
      have he : L = slS i.toNat j.toNat A := k3.inj (slS_can hg cA.chain (doc_base8 hg h0) _ _) (by
        rw [k4, slS_units A hg, List.drop_take]
        congr 1
        omega)
      exact Or.inl ⟨L, _, _, k1, q1, k2.below b, by rw [he]; exact q3⟩
  · obtain ⟨k1, k2⟩ := h1.1 (by omega)
    obtain ⟨q1, q2⟩ := h2.1 h0
    exact Or.inr ⟨8, by decide, k1, k2, by rw [q1]; rfl, q2 ▸ nil_sl⟩
theorem tolShi {a : Nat → Addr} {w w1 w2 : World} {B1 B2 : Nat} {u dv er lv : Value} {e n : Int} {A : List Op5} (hA : DlE w B1 B2 u A) (cA : CanO A) (hl : A.length + 1 ≤ 2097152)
    (h1 : ShR a w1 A n dv er) (h2 : ShfR w1 w2 A n lv e) (b : Below w1.heap.size w1 w2) : TolX a w2 dv er lv e := by
  by_cases hr : n < 0 ∨ 1099511627776 < n
  · obtain ⟨k1, k2⟩ := h1.1 hr
    obtain ⟨q1, q2⟩ := h2.1 hr
    exact Or.inr ⟨11, by decide, k1, k2, by rw [q1]; rfl, q2 ▸ nil_sl⟩
  · obtain ⟨p1, p2⟩ := h1.2 hr
    obtain ⟨r1, r2⟩ := h2.2 hr
    by_cases hz : n = 0 ∨ A = []
    · have hsh : shift8 A n = A := if_pos hz
      have hf : FitSh A n := by
        rcases hz with h | h
        · right
          have := hA.fits
          unfold Fits8 at this
          omega
        · exact Or.inl h
      obtain ⟨k1, C1, C2, k2⟩ := p1 hf
      obtain ⟨q1, _, q3⟩ := r1 hz
      exact Or.inl ⟨A, C1, C2, k1, q1, by have := (shiftx_dle hA (by omega) hl hf k2).1; rw [hsh] at this; exact this.below b, q3⟩
    · have h0 : A ≠ [] := fun h => hz (Or.inr h)
      have hsh : shift8 A n = canonL (pl7 n :: A) := if_neg hz
      have hs := shift_sums cA (show 0 ≤ n by omega) h0
      have hiff : Fits8 (canonL (pl7 n :: A)) ↔ FitSh A n := by
        rw [← hsh]
        unfold Fits8 FitSh
        rw [hs.1, hs.2]
        exact ⟨fun h => Or.inr h, fun h => h.resolve_left h0⟩
      have r3 := r2 hz
      by_cases hf : FitSh A n
      · obtain ⟨k1, C1, C2, k2⟩ := p1 hf
        obtain ⟨q1, _, q3⟩ := r3.1 (hiff.2 hf)
        rw [← hsh] at q3
        exact Or.inl ⟨shift8 A n, C1, C2, k1, q1, (shiftx_dle hA (by omega) hl hf k2).1.below b, q3⟩
      · obtain ⟨k1, k2⟩ := p2 hf
        obtain ⟨q1, q2⟩ := r3.2 (fun h => hf (hiff.1 h))
        exact Or.inr ⟨10, by decide, k2, k1, by rw [q1]; rfl, q2 ▸ nil_sl⟩
/-- What 'of' answered. -/
structure OfRx (dv : Value) (L : List Op5) (W : World) : Prop where
  yes : canonB L = true → (∃ q, dv = .pointer (some ⟨q, 0, none⟩)) ∧ ∃ B1 B2, DlE W B1 B2 dv L
  no : canonB L = false → dv = .pointer none
theorem OfRx.below {dv : Value} {L : List Op5} {W W' : World} (h : OfRx dv L W) (b : Below W.heap.size W W') : OfRx dv L W' :=
  ⟨fun hc => ⟨(h.yes hc).1, by obtain ⟨B1, B2, hd⟩ := (h.yes hc).2; exact ⟨B1, B2, hd.below b⟩⟩, h.no⟩
end Go.Proofs.YtalfdjglbbmjcaaGreatDoor

/- Of all lists of operations vellumlaw08.MeasurePlays answers true. -/
namespace Go.Proofs.YtalfdjglbbmjcaaGreatDoor
open Go Go.RowKit Go.Lib
set_option linter.unusedVariables false

set_option maxHeartbeats 16000000 in
set_option maxRecDepth 100000 in
theorem measurePlays_any {I : List Nat} {a : Nat → Addr} (va vb : Value) (x y : Int) (A B : List Op5) (w : World) (hJ : ∀ i ∈ IR8, i ∈ I) (hS : Std I a w) (hN : Sent a w) (ra : ReO w va A) (rb : ReO w vb B) (fA : FitL A) (fB : FitL B) (lA : A.length + 1 ≤ 1048576) (tA : txtS A ≤ 1048576) (lB : B.length + 1 ≤ 1048576) (tB : txtS B ≤ 1048576) (hx : -9223372036854775808 ≤ x ∧ x ≤ 9223372036854775807) (hy : -9223372036854775808 ≤ y ∧ y ≤ 9223372036854775807) (hsum : A.length + B.length + 1 ≤ 1048576) (htsum : txtS A + txtS B ≤ 1048576) :
    Calls Tryz.prog 7 #[va, vb, .int .i64 x, .int .i64 y] w fun r w' => r = .returned (.bool true) ∧ Below w.heap.size w w' := by
  obtain ⟨hI, h11⟩ := ir8 hJ
  have cF := fixed8_any w hI h11 hS
  have cO : Hid (∀ (v : Value) (L : List Op5), ReO w v L → FitL L → L.length + 1 ≤ 1048576 → txtS L ≤ 1048576 → ∀ W, Below w.heap.size w W → Calls Tryz.prog 32 #[v] W fun r w' => ∃ dv, r = .returned dv ∧ (canonB L = true → (∃ q, dv = .pointer (some ⟨q, 0, none⟩)) ∧ DlE w' W.heap.size W.heap.size dv L) ∧ (canonB L = false → dv = .pointer none) ∧ Below W.heap.size W w') := fun v L hv hF hl ht W hW => of8_any v L W hI (hS.below hW) (hv.below hW) hF (by omega) (by omega)
  have cC : Hid (∀ (v : Value) (L : List Op5), ReO w v L → FitL L → L.length + 1 ≤ 1048576 → ∀ W, Below w.heap.size w W → Calls Tryz.prog 33 #[v] W fun r w' => r = .returned (.bool (canonB L)) ∧ Below W.heap.size W w') := fun v L hv hF hl W hW => refCanon_any v L W (hS.below hW) (hv.below hW) hF (by omega)
  have HO : Hid (ReO w va A ∧ ReO w vb B ∧ FitL A ∧ FitL B) := ⟨ra, rb, fA, fB⟩
  have HL : Hid ((A.length + 1 ≤ 1048576 ∧ txtS A ≤ 1048576) ∧ (B.length + 1 ≤ 1048576 ∧ txtS B ≤ 1048576) ∧ A.length + B.length + 1 ≤ 1048576 ∧ txtS A + txtS B ≤ 1048576) := ⟨⟨lA, tA⟩, ⟨lB, tB⟩, hsum, htsum⟩
  have HS : Hid ((∀ W, Below w.heap.size w W → Std I a W) ∧ (∀ W, Below w.heap.size w W → Sent a W) ∧ (∀ i ∈ IxO, i ∈ I) ∧ 11 ∈ I) := ⟨fun W hW => hS.below hW, fun W hW => hN.below hW, hI, h11⟩
  obtain ⟨D0, ⟨p, cap, rfl, _⟩, _⟩ := id ra
  obtain ⟨D1, ⟨p1, cap1, rfl, _⟩, _⟩ := id rb
  clear hI h11 hJ hS hN ra rb fA fB lA tA lB tB hsum htsum
  go_enter Tryz.func7, Tryz.ntmps7
  go_wp2_with fail
  refine cF.mono ?_; rintro r wz ⟨rfl, hbz⟩
  clear cF
  have c1 := cO.out _ A HO.out.1 HO.out.2.2.1 HL.out.1.1 HL.out.1.2 wz hbz
  go_wp2_with fail
  refine c1.mono ?_; rintro r w1 ⟨d1, rfl, h1, h0, b1⟩
  have hb1 := hbz.trans (b1.mono hbz.size)
  have K1_1 := Hid.mk8 ((OfRx.mk (fun hc => ⟨(h1 hc).1, _, _, (h1 hc).2⟩) h0 : OfRx d1 A w1))
  clear c1 b1 hbz  h1 h0
  have c2 := cO.out _ B HO.out.2.1 HO.out.2.2.2 HL.out.2.1.1 HL.out.2.1.2 w1 hb1
  go_wp2_with fail
  refine c2.mono ?_; rintro r w2 ⟨d2, rfl, h1, h0, b2⟩
  have hb2 := hb1.trans (b2.mono hb1.size)
  have K1_2 := Hid.mk8 (K1_1.out.below b2)
  have K2_2 := Hid.mk8 ((OfRx.mk (fun hc => ⟨(h1 hc).1, _, _, (h1 hc).2⟩) h0 : OfRx d2 B w2))
  clear c2 b2 hb1 K1_1 h1 h0
  by_cases k1 : canonB A = true
  · obtain ⟨⟨qa, rfl⟩, A1, A2, hda⟩ := K1_2.out.yes k1
    have HCA := Hid.mk8 (canB_can k1)
    by_cases k2 : canonB B = true
    · obtain ⟨⟨qb, rfl⟩, B1, B2, hdb⟩ := K2_2.out.yes k2
      have HCB := Hid.mk8 (canB_can k2)
      have HDA := Hid.mk8 hda
      have HDB := Hid.mk8 hdb
      have HRA : Hid (∀ W, Below w.heap.size w W → RfE W (.slice p D0.length cap) A) := fun W hW => ⟨HO.out.1.below hW, HCA.out.2.2, HO.out.2.2.1, by have := HL.out; omega, HCA.out.2.1⟩
      have HRB : Hid (∀ W, Below w.heap.size w W → RfE W (.slice p1 D1.length cap1) B) := fun W hW => ⟨HO.out.2.1.below hW, HCB.out.2.2, HO.out.2.2.2, by have := HL.out; omega, HCB.out.2.1⟩
      clear hda hdb k1 k2 cC cO K1_2 K2_2
      obtain ⟨BB, hBB⟩ : ∃ x, sumB A = x := ⟨_, rfl⟩
      obtain ⟨RR, hRR⟩ : ∃ x, sumR A = x := ⟨_, rfl⟩
      obtain ⟨II, hII⟩ : ∃ x, sumI8 A = x := ⟨_, rfl⟩
      obtain ⟨DD, hDD⟩ : ∃ x, sumD8 A = x := ⟨_, rfl⟩
      obtain ⟨OO, hOO⟩ : ∃ x, (sumB A == 0) = x := ⟨_, rfl⟩
      have HQ : Hid (sumB A = BB ∧ sumR A = RR ∧ sumI8 A = II ∧ sumD8 A = DD ∧ (sumB A == 0) = OO) := ⟨hBB, hRR, hII, hDD, hOO⟩
      have v1 : (BB != BB) = false := bne_self_eq_false _
      have v2 : (RR != RR) = false := bne_self_eq_false _
      have v3 : (II != II) = false := bne_self_eq_false _
      have v4 : (DD != DD) = false := bne_self_eq_false _
      have v5 : (OO != OO) = false := bne_self_eq_false _
      clear hBB hRR hII hDD hOO
      have cm3 := base8_any _ _ w2 HDA.out
      rw [HQ.out.1] at cm3
      go_wp2_with fail
      refine cm3.mono ?_; rintro r wm3 ⟨rfl, bm3⟩
      have hbm3 := hb2.trans (bm3.mono hb2.size)
      have HA_m3 := Hid.mk8 (HDA.out.below bm3)
      have HB_m3 := Hid.mk8 (HDB.out.below bm3)
      clear cm3 bm3 hb2 HDA HDB
      have cm4 := refBase8_any _ A wm3 (HS.out.1 wm3 hbm3) (HRA.out wm3 hbm3)
      rw [HQ.out.1] at cm4
      go_wp2_with fail
      refine cm4.mono ?_; rintro r wm4 ⟨rfl, bm4⟩
      have hbm4 := hbm3.trans (bm4.mono hbm3.size)
      have HA_m4 := Hid.mk8 (HA_m3.out.below bm4)
      have HB_m4 := Hid.mk8 (HB_m3.out.below bm4)
      clear cm4 bm4 hbm3 HA_m3 HB_m3
      have cm5 := result8_any _ _ wm4 HA_m4.out
      rw [HQ.out.2.1] at cm5
      go_wp2_with fail
      refine cm5.mono ?_; rintro r wm5 ⟨rfl, bm5⟩
      have hbm5 := hbm4.trans (bm5.mono hbm4.size)
      have HA_m5 := Hid.mk8 (HA_m4.out.below bm5)
      have HB_m5 := Hid.mk8 (HB_m4.out.below bm5)
      clear cm5 bm5 hbm4 HA_m4 HB_m4
      have cm6 := refResult8_any _ A wm5 (HS.out.1 wm5 hbm5) (HRA.out wm5 hbm5)
      rw [HQ.out.2.1] at cm6
      go_wp2_with fail
      refine cm6.mono ?_; rintro r wm6 ⟨rfl, bm6⟩
      have hbm6 := hbm5.trans (bm6.mono hbm5.size)
      have HA_m6 := Hid.mk8 (HA_m5.out.below bm6)
      have HB_m6 := Hid.mk8 (HB_m5.out.below bm6)
      clear cm6 bm6 hbm5 HA_m5 HB_m5
      have cm7 := ins8_any _ _ wm6 HA_m6.out
      rw [HQ.out.2.2.1] at cm7
      go_wp2_with fail
      refine cm7.mono ?_; rintro r wm7 ⟨rfl, bm7⟩
      have hbm7 := hbm6.trans (bm7.mono hbm6.size)
      have HA_m7 := Hid.mk8 (HA_m6.out.below bm7)
      have HB_m7 := Hid.mk8 (HB_m6.out.below bm7)
      clear cm7 bm7 hbm6 HA_m6 HB_m6
      have cm8 := refIns8_any _ A wm7 (HRA.out wm7 hbm7)
      rw [HQ.out.2.2.1] at cm8
      go_wp2_with fail
      refine cm8.mono ?_; rintro r wm8 ⟨rfl, bm8⟩
      have hbm8 := hbm7.trans (bm8.mono hbm7.size)
      have HA_m8 := Hid.mk8 (HA_m7.out.below bm8)
      have HB_m8 := Hid.mk8 (HB_m7.out.below bm8)
      clear cm8 bm8 hbm7 HA_m7 HB_m7
      have cm9 := dl8_any _ _ wm8 HA_m8.out
      rw [HQ.out.2.2.2.1] at cm9
      go_wp2_with fail
      refine cm9.mono ?_; rintro r wm9 ⟨rfl, bm9⟩
      have hbm9 := hbm8.trans (bm9.mono hbm8.size)
      have HA_m9 := Hid.mk8 (HA_m8.out.below bm9)
      have HB_m9 := Hid.mk8 (HB_m8.out.below bm9)
      clear cm9 bm9 hbm8 HA_m8 HB_m8
      have cm10 := refDl8_any _ A wm9 (HRA.out wm9 hbm9)
      rw [HQ.out.2.2.2.1] at cm10
      go_wp2_with fail
      refine cm10.mono ?_; rintro r wm10 ⟨rfl, bm10⟩
      have hbm10 := hbm9.trans (bm10.mono hbm9.size)
      have HA_m10 := Hid.mk8 (HA_m9.out.below bm10)
      have HB_m10 := Hid.mk8 (HB_m9.out.below bm10)
      clear cm10 bm10 hbm9 HA_m9 HB_m9
      have cm11 := doc8_any _ _ wm10 HA_m10.out
      rw [HQ.out.2.2.2.2] at cm11
      go_wp2_with fail
      refine cm11.mono ?_; rintro r wm11 ⟨rfl, bm11⟩
      have hbm11 := hbm10.trans (bm11.mono hbm10.size)
      have HA_m11 := Hid.mk8 (HA_m10.out.below bm11)
      have HB_m11 := Hid.mk8 (HB_m10.out.below bm11)
      clear cm11 bm11 hbm10 HA_m10 HB_m10
      have cm12 := refDoc8_any _ A wm11 (HRA.out wm11 hbm11)
      rw [HQ.out.2.2.2.2] at cm12
      go_wp2_with fail
      refine cm12.mono ?_; rintro r wm12 ⟨rfl, bm12⟩
      have hbm12 := hbm11.trans (bm12.mono hbm11.size)
      have HA_m12 := Hid.mk8 (HA_m11.out.below bm12)
      have HB_m12 := Hid.mk8 (HB_m11.out.below bm12)
      clear cm12 bm12 hbm11 HA_m11 HB_m11
      have ca1 := concat8_any _ _ A B wm12 HS.out.2.2.1 (HS.out.1 wm12 hbm12) HA_m12.out HB_m12.out (by have := HL.out; omega)
      go_wp2_with fail
      refine ca1.mono ?_; rintro r wa1 ⟨dv1, er1, rfl, q1, ba1⟩
      have hba1 := hbm12.trans (ba1.mono hbm12.size)
      have HA_a1 := Hid.mk8 (HA_m12.out.below ba1)
      have HB_a1 := Hid.mk8 (HB_m12.out.below ba1)
      have HQ1 := Hid.mk8 q1
      clear ca1 q1 ba1 hbm12 HA_m12 HB_m12
      have cb1 := refConcat8_any _ _ A B wa1 (HRA.out wa1 hba1) (HRB.out wa1 hba1) (by have := HL.out; omega) (by have := HL.out; omega)
      go_wp2_with fail
      refine cb1.mono ?_; rintro r wb1 ⟨lv1, e1, rfl, t1, bb1⟩
      have hbb1 := hba1.trans (bb1.mono hba1.size)
      have HTol1 := Hid.mk8 (tolCat (w := _) HA_a1.out HB_a1.out HCA.out.1 HCB.out.1 (by have := HL.out; omega) (by have := HL.out; omega) HQ1.out t1 bb1)
      have HA_b1 := Hid.mk8 (HA_a1.out.below bb1)
      have HB_b1 := Hid.mk8 (HB_a1.out.below bb1)
      clear cb1 t1 bb1 hba1 HQ1 HA_a1 HB_a1
      have cm13 := HTol1.out.call (HS.out.2.1 wb1 hbb1)
      go_wp2_with fail
      refine cm13.mono ?_; rintro r wm13 ⟨rfl, bm13⟩
      have hbm13 := hbb1.trans (bm13.mono hbb1.size)
      have HA_m13 := Hid.mk8 (HA_b1.out.below bm13)
      have HB_m13 := Hid.mk8 (HB_b1.out.below bm13)
      clear cm13 bm13 hbb1 HA_b1 HB_b1 HTol1
      have ca2 := slice8_any _ A x y wm13 HS.out.2.2.1 HS.out.2.2.2 (HS.out.1 wm13 hbm13) HA_m13.out HCA.out.1 (by have := HL.out; omega) (by have := HL.out; omega) hx hy
      go_wp2_with fail
      refine ca2.mono ?_; rintro r wa2 ⟨dv2, er2, rfl, q2, ba2⟩
      have hba2 := hbm13.trans (ba2.mono hbm13.size)
      have HA_a2 := Hid.mk8 (HA_m13.out.below ba2)
      have HB_a2 := Hid.mk8 (HB_m13.out.below ba2)
      have HQ2 := Hid.mk8 q2
      clear ca2 q2 ba2 hbm13 HA_m13 HB_m13
      have cb2 := refSlice8_any _ A x y wa2 (HS.out.1 wa2 hba2) (HRA.out wa2 hba2) hx hy
      go_wp2_with fail
      refine cb2.mono ?_; rintro r wb2 ⟨lv2, e2, rfl, t2, bb2⟩
      have hbb2 := hba2.trans (bb2.mono hba2.size)
      have HTol2 := Hid.mk8 (tolSli HCA.out.2.2 HCA.out.1 (by have := HA_a2.out.sums; omega) HQ2.out t2 bb2)
      have HA_b2 := Hid.mk8 (HA_a2.out.below bb2)
      have HB_b2 := Hid.mk8 (HB_a2.out.below bb2)
      clear cb2 t2 bb2 hba2 HQ2 HA_a2 HB_a2
      have cm14 := HTol2.out.call (HS.out.2.1 wb2 hbb2)
      go_wp2_with fail
      refine cm14.mono ?_; rintro r wm14 ⟨rfl, bm14⟩
      have hbm14 := hbb2.trans (bm14.mono hbb2.size)
      have HA_m14 := Hid.mk8 (HA_b2.out.below bm14)
      have HB_m14 := Hid.mk8 (HB_b2.out.below bm14)
      clear cm14 bm14 hbb2 HA_b2 HB_b2 HTol2
      have ca3 := shift8_any _ A x wm14 HS.out.2.2.1 HS.out.2.2.2 (HS.out.1 wm14 hbm14) HA_m14.out (by have := HL.out; omega) hx
      go_wp2_with fail
      refine ca3.mono ?_; rintro r wa3 ⟨dv3, er3, rfl, q3, ba3⟩
      have hba3 := hbm14.trans (ba3.mono hbm14.size)
      have HA_a3 := Hid.mk8 (HA_m14.out.below ba3)
      have HB_a3 := Hid.mk8 (HB_m14.out.below ba3)
      have HQ3 := Hid.mk8 q3
      clear ca3 q3 ba3 hbm14 HA_m14 HB_m14
      have cb3 := refShift8_any _ A x wa3 (HRA.out wa3 hba3) (by have := HL.out; omega) hx
      go_wp2_with fail
      refine cb3.mono ?_; rintro r wb3 ⟨lv3, e3, rfl, t3, bb3⟩
      have hbb3 := hba3.trans (bb3.mono hba3.size)
      have HTol3 := Hid.mk8 (tolShi (w := _) HA_a3.out HCA.out.1 (by have := HL.out; omega) HQ3.out t3 bb3)
      have HA_b3 := Hid.mk8 (HA_a3.out.below bb3)
      have HB_b3 := Hid.mk8 (HB_a3.out.below bb3)
      clear cb3 t3 bb3 hba3 HQ3 HA_a3 HB_a3
      have cm15 := HTol3.out.call (HS.out.2.1 wb3 hbb3)
      go_wp2_with fail
      refine cm15.mono ?_; rintro r wm15 ⟨rfl, bm15⟩
      have hbm15 := hbb3.trans (bm15.mono hbb3.size)
      have HA_m15 := Hid.mk8 (HA_b3.out.below bm15)
      have HB_m15 := Hid.mk8 (HB_b3.out.below bm15)
      clear cm15 bm15 hbb3 HA_b3 HB_b3 HTol3
      have cm16 := is8_any _ _ A A wm15 HA_m15.out ((HRA.out wm15 hbm15).re) (by have := HL.out; omega) (fun e he => (HO.out.2.2.1 e he).n)
      rw [decide_eq_true rfl] at cm16
      go_wp2_with fail
      refine cm16.mono ?_; rintro r wm16 ⟨rfl, bm16⟩
      have hbm16 := hbm15.trans (bm16.mono hbm15.size)
      have HA_m16 := Hid.mk8 (HA_m15.out.below bm16)
      have HB_m16 := Hid.mk8 (HB_m15.out.below bm16)
      clear cm16 bm16 hbm15 HA_m15 HB_m15
      have cm17 := is8_any _ _ B B wm16 HB_m16.out ((HRB.out wm16 hbm16).re) (by have := HL.out; omega) (fun e he => (HO.out.2.2.2 e he).n)
      rw [decide_eq_true rfl] at cm17
      go_wp2_with fail
      refine cm17.mono ?_; rintro r wm17 ⟨rfl, bm17⟩
      have hbm17 := hbm16.trans (bm17.mono hbm16.size)
      have HA_m17 := Hid.mk8 (HA_m16.out.below bm17)
      have HB_m17 := Hid.mk8 (HB_m16.out.below bm17)
      clear cm17 bm17 hbm16 HA_m16 HB_m16
      go_wp2
      go_ret
      exact ⟨rfl, hbm17⟩
    · have k2' : canonB B = false := by simpa using k2
      obtain rfl := K2_2.out.no k2'
      have cn3 := cC.out _ A HO.out.1 HO.out.2.2.1 HL.out.1.1 w2 hb2
      rw [k1] at cn3
      go_wp2_with fail
      refine cn3.mono ?_; rintro r wn3 ⟨rfl, bn3⟩
      have hbn3 := hb2.trans (bn3.mono hb2.size)
      have K1_n3 := Hid.mk8 (K1_2.out.below bn3)
      have K2_n3 := Hid.mk8 (K2_2.out.below bn3)
      clear cn3 bn3 hb2 K1_2 K2_2
      have cn4 := cC.out _ B HO.out.2.1 HO.out.2.2.2 HL.out.2.1.1 wn3 hbn3
      rw [k2'] at cn4
      go_wp2_with fail
      refine cn4.mono ?_; rintro r wn4 ⟨rfl, bn4⟩
      have hbn4 := hbn3.trans (bn4.mono hbn3.size)
      have K1_n4 := Hid.mk8 (K1_n3.out.below bn4)
      have K2_n4 := Hid.mk8 (K2_n3.out.below bn4)
      clear cn4 bn4 hbn3 K1_n3 K2_n3
      go_wp2
      go_ret
      exact ⟨rfl, hbn4⟩
  · have k1' : canonB A = false := by simpa using k1
    obtain rfl := K1_2.out.no k1'
    have cb3 := cC.out _ A HO.out.1 HO.out.2.2.1 HL.out.1.1 w2 hb2
    rw [k1'] at cb3
    go_wp2_with fail
    refine cb3.mono ?_; rintro r wb3 ⟨rfl, bb3⟩
    have hbb3 := hb2.trans (bb3.mono hb2.size)
    have K1_b3 := Hid.mk8 (K1_2.out.below bb3)
    have K2_b3 := Hid.mk8 (K2_2.out.below bb3)
    clear cb3 bb3 hb2 K1_2 K2_2
    go_wp2
    go_ret
    exact ⟨rfl, hbb3⟩
end Go.Proofs.YtalfdjglbbmjcaaGreatDoor
