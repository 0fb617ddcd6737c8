/- Operations as new memory: appends of rows of operations; vellumlaw05.copied. Beginnings of canonical lists; lists with one operation doubled; parts of rows of operations; an append of a row within a region that draws its order. Of all lists of operations and numbers vellumlaw05.OpsBeginnings answers true. -/
import Derived.Test.YtkgflmbhkbeakabDoorQd
import Derived.Deep.DeepCutAuto
import Derived.Test.YtkgflmbhkbeakabDoorQg
import Derived.Test.YtkgflmbhkbeakabDoorQt
import Derived.Deep.RegionHeld3
import Derived.Deep.RegionLaw
import Derived.Laws.AppendOwn
import Derived.Test.YtkgflmbhkbeakabDoorQn

/- Operations as new memory: appends of rows of operations; vellumlaw05.copied. -/
namespace Go.Proofs.YtkgflmbhkbeakabDoor
open Go Go.RowKit Go.Lib
set_option linter.unusedVariables false

theorem cellsO_inv : ∀ (L : List OV) (j : Nat) (u : Value), (cellsO L)[j]? = some u → ∃ i d, L[i]? = some d ∧ ((j = i * 7 ∧ u = .int .i64 d.1) ∨ (j = i * 7 + 1 ∧ u = .string d.2.1) ∨ (j = i * 7 + 2 ∧ u = .int .i64 d.2.2.1.1) ∨ (j = i * 7 + 3 ∧ u = .int .i64 d.2.2.1.2.1) ∨ (j = i * 7 + 4 ∧ u = .string d.2.2.1.2.2) ∨ (j = i * 7 + 5 ∧ u = .int .i64 d.2.2.2.1) ∨ (j = i * 7 + 6 ∧ u = slV d.2.2.2.2))
  | [], j, u, h => by simp [cellsO] at h
  | p :: r, 0, u, h => ⟨0, p, rfl, Or.inl ⟨rfl, by simpa [cellsO] using h.symm⟩⟩
  | p :: r, 1, u, h => ⟨0, p, rfl, Or.inr (Or.inl ⟨rfl, by simpa [cellsO] using h.symm⟩)⟩
  | p :: r, 2, u, h => ⟨0, p, rfl, Or.inr (Or.inr (Or.inl ⟨rfl, by simpa [cellsO] using h.symm⟩))⟩
  | p :: r, 3, u, h => ⟨0, p, rfl, Or.inr (Or.inr (Or.inr (Or.inl ⟨rfl, by simpa [cellsO] using h.symm⟩)))⟩
  | p :: r, 4, u, h => ⟨0, p, rfl, Or.inr (Or.inr (Or.inr (Or.inr (Or.inl ⟨rfl, by simpa [cellsO] using h.symm⟩))))⟩
  | p :: r, 5, u, h => ⟨0, p, rfl, Or.inr (Or.inr (Or.inr (Or.inr (Or.inr (Or.inl ⟨rfl, by simpa [cellsO] using h.symm⟩)))))⟩
  | p :: r, 6, u, h => ⟨0, p, rfl, Or.inr (Or.inr (Or.inr (Or.inr (Or.inr (Or.inr ⟨rfl, by simpa [cellsO] using h.symm⟩)))))⟩
  | p :: r, j + 7, u, h => by
    obtain ⟨i, q, hq, hh⟩ := cellsO_inv r j u (by simpa [cellsO] using h)
    refine ⟨i + 1, q, by simpa using hq, ?_⟩
    rcases hh with ⟨h1, h2⟩ | ⟨h1, h2⟩ | ⟨h1, h2⟩ | ⟨h1, h2⟩ | ⟨h1, h2⟩ | ⟨h1, h2⟩ | ⟨h1, h2⟩
    · exact Or.inl ⟨by omega, h2⟩
    · exact Or.inr (Or.inl ⟨by omega, h2⟩)
    · exact Or.inr (Or.inr (Or.inl ⟨by omega, h2⟩))
    · exact Or.inr (Or.inr (Or.inr (Or.inl ⟨by omega, h2⟩)))
    · exact Or.inr (Or.inr (Or.inr (Or.inr (Or.inl ⟨by omega, h2⟩))))
    · exact Or.inr (Or.inr (Or.inr (Or.inr (Or.inr (Or.inl ⟨by omega, h2⟩)))))
    · exact Or.inr (Or.inr (Or.inr (Or.inr (Or.inr (Or.inr ⟨by omega, h2⟩)))))
/-- append(own, a row of operations ...). -/
theorem wpList_append_rowO {w : World} {ops : Array Oper} {rest : List Oper} {o : Oper} {a : Act} {Q : Exit → Act → World → Prop} (hgd : o.guard = none) (s x : Operand)
    (ho : o.op = .call { callee := .builtin .append, args := #[s, x], argTypes := #[22, 22] })
    (base : Nat) (v : Value) (L : List OV) (hs : a.eval s = v) (hown : OwnO w base v L)
    (u : Value) (M : List OV) (hx : a.eval x = u) (hM : RowO w u M)
    (h63 : L.length + M.length ≤ 33554432) (hbase : base ≤ w.heap.size)
    (h : ∀ v' w', OwnO w' base v' (L ++ M) → w.grownBy w' v.ownBlock → wpList Tryd.prog ops Q rest (a.put o.dst v') w') : wpList Tryd.prog ops Q (o :: rest) a w := by
  obtain ⟨i, z, hi, hz, hz1, hz2, hz3⟩ := infoOp
  obtain ⟨p, cap, rfl, hcap, hnz, hc⟩ := hM
  cases p with
  | none =>
    have hM0 : M = [] := List.eq_nil_of_length_eq_zero (by have := hnz rfl; omega)
    have hcap0 := hnz rfl
    subst hM0
    subst hcap0
    exact wpList_append_own_none hgd s x 22 ho base 37 i 7 Tryd.underlying22 hi v L.length (cellsO L) hs hown hx (h v w (by simpa using hown) ⟨rfl, rfl, rfl, Nat.le_refl _, fun _ _ _ => rfl⟩)
  | some ad =>
    refine wpList_append_own _ hgd s x _ ho base 37 i z 7 88 Tryd.underlying22 hi hz hz1 hz2 hz3 (by decide) v L.length (cellsO L) hs hown ad M.length cap (cellsO M) hx (cellsO_len M) (fun j y hj => ?_) (cellsO_one _) (by unfold maxLen; omega) (by omega) hbase (fun v' w' h1 h2 _ => h v' w' ?_ h2)
    · obtain ⟨i, d, hd, hh⟩ := cellsO_inv M j y hj
      obtain ⟨b, off, hp, h0, h1, h2, h3, h4, h5, h6⟩ := hc i d hd
      obtain rfl := Option.some.inj hp
      rw [Addr.add_lit]
      rcases hh with ⟨rfl, rfl⟩ | ⟨rfl, rfl⟩ | ⟨rfl, rfl⟩ | ⟨rfl, rfl⟩ | ⟨rfl, rfl⟩ | ⟨rfl, rfl⟩ | ⟨rfl, rfl⟩
      · exact h0
      · exact h1
      · exact h2
      · exact h3
      · exact h4
      · exact h5
      · exact h6
    · show w'.ownsRow _ _ _ _ _ _
      rw [cellsO_append, List.length_append]
      exact h1
/-- What operations in memory are, their lists the call's own. -/
def OwD (w : World) (B : Nat) (D : List OV) (E : List Op5) : Prop := All2 (fun (d : OV) (e : Op5) => d.1 = e.k ∧ d.2.1 = e.t ∧ d.2.2.1 = e.v ∧ d.2.2.2.1 = e.c ∧ OwnA w B (slV d.2.2.2.2) e.A) D E
theorem OwD.below {w w' : World} {B : Nat} {D : List OV} {E : List Op5} (h : OwD w B D E) (b : Below w.heap.size w w') : OwD w' B D E := All2.imp (fun d e h => ⟨h.1, h.2.1, h.2.2.1, h.2.2.2.1, owns_below h.2.2.2.2 b⟩) h
theorem OwD.keep {w w' : World} {B : Nat} {D : List OV} {E : List Op5} (h : OwD w B D E) (b : KeepA w w') : OwD w' B D E := All2.imp (fun d e h => ⟨h.1, h.2.1, h.2.2.1, h.2.2.2.1, keepA_own h.2.2.2.2 b⟩) h
theorem OwD.weaken {w : World} {B B' : Nat} {D : List OV} {E : List Op5} (h : OwD w B D E) (hb : B' ≤ B) : OwD w B' D E := All2.imp (fun d e h => ⟨h.1, h.2.1, h.2.2.1, h.2.2.2.1, own_weaken h.2.2.2.2 hb⟩) h
theorem OwD.re {w : World} {B : Nat} {D : List OV} {E : List Op5} (h : OwD w B D E) : ReD w D E := All2.imp (fun d e h => ⟨h.1, h.2.1, h.2.2.1, h.2.2.2.1, own_RN h.2.2.2.2⟩) h
/-- A list of operations, the call's own. -/
def CoO (w : World) (B : Nat) (v : Value) (E : List Op5) : Prop := ∃ D, OwnO w B v D ∧ OwD w B D E
theorem CoO.below {w w' : World} {B : Nat} {v : Value} {E : List Op5} (h : CoO w B v E) (b : Below w.heap.size w w') : CoO w' B v E := by
  obtain ⟨D, h1, h2⟩ := h
  exact ⟨D, owns_below h1 b, h2.below b⟩
theorem CoO.re {w : World} {B : Nat} {v : Value} {E : List Op5} (h : CoO w B v E) : ReO w v E := by
  obtain ⟨D, h1, h2⟩ := h
  exact ⟨D, own_rowO h1, h2.re⟩

set_option maxHeartbeats 2000000 in
set_option maxRecDepth 100000 in
theorem copied5_any (v : Value) (E : List Op5) (w : World) (hv : ReO w v E) (hl : E.length ≤ 1048576) (hA : ∀ e ∈ E, e.A.length ≤ 1048576) :
    Calls Tryd.prog 8 #[v] w fun r w' => ∃ v', r = .returned v' ∧ CoO w' w.heap.size v' E ∧ Below w.heap.size w w' := by
  obtain ⟨D0, hrow, hre⟩ := hv
  have hDE := forall2_len hre
  obtain ⟨n, hn⟩ : ∃ n, D0.length = n := ⟨_, rfl⟩
  obtain ⟨p, cap, rfl, hcap, hnz, hc⟩ := hrow
  have HC : Hid (∀ (j : Nat) (d : OV), D0[j]? = some d → ∃ b off, p = some ⟨b, off, none⟩ ∧ OpAt w b (off + j * 7) d) := hc
  have HN : Hid (D0.length = n ∧ E.length = n) := ⟨hn, by rw [← hDE, hn]⟩
  have HE : Hid (ReD w D0 E ∧ ∀ e ∈ E, e.A.length ≤ 1048576) := ⟨hre, hA⟩
  have hl : n ≤ 1048576 := by rw [← hn, hDE]; exact hl
  rw [hn] at hcap ⊢
  clear hc hn hDE hre hA hnz
  have o0 := own_emptyO w w.heap.size (Nat.le_refl _)
  have b0 := (Below.refl w.heap.size w).alloc (Nat.le_refl _) (.cells #[] 37)
  obtain ⟨W0, hW0⟩ : ∃ W, W = w.alloc (.cells #[] 37) := ⟨_, rfl⟩
  obtain ⟨v0, hv0⟩ : ∃ v0 : Value, v0 = .slice (some ⟨w.heap.size, 0, none⟩) 0 0 := ⟨_, rfl⟩
  rw [← hW0, ← hv0] at o0
  rw [← hW0] at b0
  go_enter Tryd.func8, Tryd.ntmps8
  go_wp2
  rw [← hW0, ← hv0]
  clear hW0 hv0
  go_loopw [3, 9] (fun o i wr => ∃ (k : Nat) (D : List OV), k ≤ n ∧ i = .int .i64 k ∧ D.length = k ∧ OwnO wr w.heap.size o D ∧ OwD wr w.heap.size D (E.take k) ∧ Below w.heap.size w wr) (fun _ i _ => n - (RowKit.intOf i).toNat)
  case atStart => exact ⟨0, [], Nat.zero_le _, rfl, rfl, o0, .nil, b0⟩
  case round =>
    clear o0 b0
    obtain ⟨k, D, hk, rfl, hDl, hown, hsp, hbw⟩ := hrel
    by_cases hlt : k < n
    · have hltI : (k : Int) < n := by omega
      obtain ⟨d, hd⟩ : ∃ d, D0[k]? = some d := ⟨_, List.getElem?_eq_getElem (by rw [HN.out.1]; exact hlt)⟩
      obtain ⟨e, he, hr⟩ := forall2_get HE.out.1 k d hd
      obtain ⟨b, off, rfl, hp⟩ := HC.out k d hd
      have hpw := hp.below hbw
      obtain ⟨c0, c1, c2, c3, c4, c5, c6⟩ := hpw
      have hrw := hr.2.2.2.2.below hbw
      have HT : Hid (E.take (k + 1) = E.take k ++ [e]) := by show _ = _; rw [List.take_add_one, he]; rfl
      have HR : Hid (d.1 = e.k ∧ d.2.1 = e.t ∧ d.2.2.1 = e.v ∧ d.2.2.2.1 = e.c) := ⟨hr.1, hr.2.1, hr.2.2.1, hr.2.2.2.1⟩
      have HO : Hid (OwnO wr w.heap.size u3 D ∧ OwD wr w.heap.size D (E.take k)) := ⟨hown, hsp⟩
      have hAl : e.A.length ≤ 1048576 := HE.out.2 e (List.mem_of_getElem? he)
      clear hd he hr hp hown hsp
      obtain ⟨dk, dt, ⟨dx, dn, du⟩, dc, ds⟩ := d
      obtain ⟨dp, dl, dcap⟩ := ds
      simp only [slV] at c0 c1 c2 c3 c4 c5 c6 hrw
      obtain ⟨W1, hW1⟩ : ∃ W, W = wr.alloc (.cells #[.int .i64 dk, .string dt, .int .i64 dx, .int .i64 dn, .string du, .int .i64 dc, .slice dp dl dcap] 37) := ⟨_, rfl⟩
      have D1 : OpAt W1 wr.heap.size 0 (dk, dt, (dx, dn, du), dc, dp, dl, dcap) := by rw [hW1]; exact ⟨by simp, by simp, by simp, by simp, by simp, by simp, by simp⟩
      have b1 : Below wr.heap.size wr W1 := by rw [hW1]; exact (Below.refl _ _).alloc (Nat.le_refl _) _
      have s1 : W1.heap.size = wr.heap.size + 1 := by rw [hW1]; simp
      have f1 : W1.frozen? ⟨wr.heap.size, 6, none⟩ = false := by rw [hW1]; simp
      have hr1 := hrw.below b1
      go_upto_region 5 with fail
      rw [← hW1]
      clear hW1 hrw
      have be := (Below.refl W1.heap.size W1).alloc (Nat.le_refl _) (.cells #[] 48)
      have oE := own_empty' W1 W1.heap.size (Nat.le_refl _)
      have hr2 := hr1.below be
      have q6 := (D1.below be).c6
      rw [Nat.zero_add] at q6
      simp only [slV] at q6
      have HR2 : Hid (RN (W1.alloc (.cells #[] 48)) (.slice dp dl dcap) e.A) := hr2
      have HD1 : Hid (OpAt W1 wr.heap.size 0 (dk, dt, (dx, dn, du), dc, dp, dl, dcap) ∧ W1.frozen? ⟨wr.heap.size, 6, none⟩ = false ∧ Below wr.heap.size wr W1 ∧ W1.heap.size = wr.heap.size + 1) := ⟨D1, f1, b1, s1⟩
      have n1 : ¬ wr.heap.size = W1.heap.size := by omega
      have n2 : ¬ W1.heap.size = wr.heap.size := by omega
      have hge2 : Hid (∀ j, (Value.slice (some ⟨W1.heap.size, 0, none⟩) 0 0).ownBlock = some j → W1.heap.size ≤ j) := fun j hj => (owns_block oE j hj).1
      clear f1 D1 hr1 c0 c1 c2 c3 c4 c5 c6 hr2 b1 s1
      have hL0 : ([] : List A2).length + e.A.length ≤ 2097152 := by simp; omega
      go_upto_region 6 with (at_builtin; refine wpList_append_row rfl (.tmp 13) (.tmp 15) rfl W1.heap.size (.slice (some ⟨W1.heap.size, 0, none⟩) 0 0) [] rfl oE (.slice dp dl dcap) e.A rfl HR2.out.row HR2.out.nz hL0 be.size ?_; intro v9 w9 own9 gr9; obtain ⟨p9, c9', rfl⟩ := own_slice own9; have b9 : Below W1.heap.size W1 w9 := be.trans (((Below.refl _ _).grown gr9 be.size (fun j hj => hge2.out j hj)).mono (Nat.le_refl _)); have D9 := HD1.out.1.below b9; have f9 := (b9.frozen (p := ⟨wr.heap.size, 6, none⟩) HD1.out.1.lt).trans HD1.out.2.1; obtain ⟨q0, q1, q2, q3, q4, q5, q9⟩ := D9; simp only [Nat.zero_add, slV] at q0 q1 q2 q3 q4 q5 q9; have O9 : Hid (OwnA w9 W1.heap.size (.slice p9 ([] ++ e.A).length c9') ([] ++ e.A)) := own9; clear own9 gr9 q6 oE be hge2 HR2 hL0)
      obtain ⟨W6, hW6⟩ : ∃ W, W = w9.setCell ⟨wr.heap.size, 6, none⟩ (.slice p9 e.A.length c9') := ⟨_, rfl⟩
      have hq : ∀ i, i ≠ 6 → W6.cell? ⟨wr.heap.size, i, none⟩ = w9.cell? ⟨wr.heap.size, i, none⟩ := fun i hi => by
        rw [hW6]; exact World.cell?_setCell_other _ _ _ _ (fun e => by cases e; omega)
      have r0 := (hq 0 (by decide)).trans q0
      have r1 := (hq 1 (by decide)).trans q1
      have r2 := (hq 2 (by decide)).trans q2
      have r3 := (hq 3 (by decide)).trans q3
      have r4 := (hq 4 (by decide)).trans q4
      have r5 := (hq 5 (by decide)).trans q5
      have r6 : W6.cell? ⟨wr.heap.size, 6, none⟩ = some (.slice p9 e.A.length c9') := by rw [hW6]; exact World.cell?_setCell_same' _ _ _ (by rw [q9]; rfl)
      have b5 : Below wr.heap.size wr w9 := HD1.out.2.2.1.trans (b9.mono (by have := HD1.out.2.2.2; omega))
      have b6 : Below wr.heap.size wr W6 := by rw [hW6]; exact b5.setCell (Nat.le_refl _) _
      have O6 : OwnA W6 w.heap.size (.slice p9 e.A.length c9') e.A := by
        have h1 := ownsRow_setCell_below O9.out (a := ⟨wr.heap.size, 6, none⟩) (by have := HD1.out.2.2.2; show wr.heap.size < W1.heap.size; omega) (.slice p9 e.A.length c9')
        have h2 := own_weaken h1 (B' := w.heap.size) (by have := hbw.size; have := HD1.out.2.2.2; omega)
        rw [hW6]
        exact h2
      rw [← hW6]
      clear hW6 hq q0 q1 q2 q3 q4 q5 q9 f9 b5 b9 O9 n1 n2
      have ba : Below W6.heap.size W6 (W6.alloc (.cells #[.int .i64 dk, .string dt, .int .i64 dx, .int .i64 dn, .string du, .int .i64 dc, .slice p9 e.A.length c9'] 37)) := (Below.refl _ _).alloc (Nat.le_refl _) _
      have b7 := b6.trans (ba.mono b6.size)
      have HO7 : Hid (OwnO (W6.alloc (.cells #[.int .i64 dk, .string dt, .int .i64 dx, .int .i64 dn, .string du, .int .i64 dc, .slice p9 e.A.length c9'] 37)) w.heap.size u3 D ∧ OpAt (W6.alloc (.cells #[.int .i64 dk, .string dt, .int .i64 dx, .int .i64 dn, .string du, .int .i64 dc, .slice p9 e.A.length c9'] 37)) W6.heap.size 0 (dk, dt, (dx, dn, du), dc, p9, e.A.length, c9')) := ⟨owns_below HO.out.1 b7, ⟨by simp, by simp, by simp, by simp, by simp, by simp, by simp⟩⟩
      have HP7 : Hid (OwD (W6.alloc (.cells #[.int .i64 dk, .string dt, .int .i64 dx, .int .i64 dn, .string du, .int .i64 dc, .slice p9 e.A.length c9'] 37)) w.heap.size (D ++ [(dk, dt, (dx, dn, du), dc, p9, e.A.length, c9')]) (E.take (k + 1))) := by
        show OwD _ _ _ _
        rw [HT.out]
        exact forall2_append (HO.out.2.below b7) (.cons ⟨HR.out.1, HR.out.2.1, HR.out.2.2.1, HR.out.2.2.2, owns_below O6 ba⟩ .nil)
      have hge : Hid (∀ j, u3.ownBlock = some j → w.heap.size ≤ j) := fun j hj => (owns_block HO.out.1 j hj).1
      have bw7 := hbw.trans (b7.mono hbw.size)
      have hlen : D.length ≤ 33554432 := by omega
      clear O6 ba b7 b6 HO HT HR HD1
      go_wp2_with (at_builtin; refine wpList_append_ops rfl (.tmp 18) (.tmp 20) rfl w.heap.size u3 D rfl HO7.out.1 W6.heap.size 1 _ rfl HO7.out.2 hlen bw7.size ?_; intro v8 w8 own8 gr8 hat8; have hsp8 : Hid (OwD w8 w.heap.size _ _) := HP7.out.keep (keepA_grownO HO7.out.1 gr8); have b8 := bw7.grown gr8 bw7.size (fun j hj => hge.out j hj); have HO8 : Hid (OwnO w8 w.heap.size v8 _) := own8; clear own8 gr8 hat8 HO7 HP7)
      go_roundw
      case rel => exact ⟨k + 1, _, by omega, by go_num, by simp [hDl], HO8.out, hsp8.out, b8⟩
      case measure => simp [RowKit.intOf]; omega
    · have hltI : ¬ (k : Int) < n := by omega
      have hE : E.take k = E := List.take_of_length_le (by rw [HN.out.2]; omega)
      rw [hE] at hsp
      have HX : Hid (CoO wr w.heap.size u3 E) := ⟨D, hown, hsp⟩
      clear hown hsp
      go_wp2
      go_ret
      exact ⟨_, rfl, HX.out, hbw⟩
end Go.Proofs.YtkgflmbhkbeakabDoor

/- Beginnings of canonical lists; lists with one operation doubled; parts of rows of operations; an append of a row within a region that draws its order. -/
namespace Go.Proofs.YtkgflmbhkbeakabDoor
open Go Go.RowKit Go.Lib
set_option linter.unusedVariables false

theorem canon_good {E : List Op5} (fE : FitL E) (h : canonB E = true) : GoodL E ∧ SB E ≤ 1099511627776 ∧ SR E ≤ 1099511627776 ∧ chainB E = true ∧ lastP E = true := by
  unfold canonB at h
  simp only [Bool.and_eq_true, decide_eq_true_eq] at h
  obtain ⟨⟨h1, h2⟩, h3⟩ := h
  have hg : GoodL E := fun o ho => ⟨bad_zero.1 ((lens_cases E).1 h1).1 o ho, fE o ho⟩
  rw [lensL_good hg] at h1
  by_cases hc : SB E ≤ 1099511627776 ∧ SR E ≤ 1099511627776
  · exact ⟨hg, hc.1, hc.2, h2, h3⟩
  · rw [if_neg hc] at h1
    simp at h1
/-- Does a beginning end with a plain retain? -/
def plainAt (E : List Op5) : Nat → Bool
  | 0 => false
  | j + 1 => match E[j]? with | some o => plainR o | none => false
theorem lastP_take {E : List Op5} : ∀ {m : Nat}, m ≤ E.length → lastP (E.take m) = !plainAt E m
  | 0, _ => rfl
  | j + 1, h => by
    obtain ⟨o, ho⟩ : ∃ o, E[j]? = some o := ⟨_, List.getElem?_eq_getElem (by omega)⟩
    unfold lastP plainAt
    rw [List.getLast?_eq_getElem?, List.length_take, Nat.min_eq_left h, List.getElem?_take_of_lt (by omega)]
    simp only [Nat.add_sub_cancel, ho]
theorem canon_take {E : List Op5} (fE : FitL E) (h : canonB E = true) {m : Nat} (hm : m ≤ E.length) : canonB (E.take m) = !plainAt E m := by
  obtain ⟨hg, h1, h2, h3, h4⟩ := canon_good fE h
  have gT : GoodL (E.take m) := fun o ho => hg o (List.mem_of_mem_take ho)
  have gD : GoodL (E.drop m) := fun o ho => hg o (List.mem_of_mem_drop ho)
  have pD := SB_pos gD
  have e1 := SB_app (E.take m) (E.drop m)
  have e2 := SR_app (E.take m) (E.drop m)
  rw [List.take_append_drop] at e1 e2
  have hc : chainB (E.take m) = true := chain_iff.2 fun j x y hx hy => by
    have hj := (List.getElem?_eq_some_iff.1 hy).1
    rw [List.length_take] at hj
    rw [List.getElem?_take_of_lt (by omega)] at hx hy
    exact chain_iff.1 h3 j x y hx hy
  unfold canonB
  rw [lensL_good gT, if_pos ⟨by omega, by omega⟩, hc, lastP_take hm]
  rfl
theorem chain_twice (o : Op5) (B : List Op5) : ∀ A : List Op5, chainB (A ++ o :: o :: B) = (chainB (A ++ o :: B) && apartB o o)
  | [] => by
    show chainB (o :: o :: B) = (chainB (o :: B) && apartB o o)
    rw [chainB, Bool.and_comm]
  | [a] => by
    show chainB (a :: o :: o :: B) = (chainB (a :: o :: B) && apartB o o)
    rw [chainB, chainB, chainB, Bool.and_assoc, Bool.and_comm (apartB o o)]
  | a :: b :: A => by
    have := chain_twice o B (b :: A)
    show chainB (a :: b :: (A ++ o :: o :: B)) = (chainB (a :: b :: (A ++ o :: B)) && apartB o o)
    rw [chainB, chainB, Bool.and_assoc]
    congr 1
theorem last_twice (o : Op5) (B A : List Op5) : lastP (A ++ o :: o :: B) = lastP (A ++ o :: B) := by
  unfold lastP
  rw [List.getLast?_append, List.getLast?_append, List.getLast?_cons_cons]
theorem apart_self {o : Op5} (h : opE o = 0) : apartB o o = (o.k == 2) := by
  unfold apartB
  rcases kinds_of h with h1 | h1 | h1 | h1
  · rw [h1]; simp
  · rw [h1]; simp
  · rw [h1]; simp
  · rw [h1]; simp
/-- A canonical list with one operation doubled. -/
theorem canon_twice {E : List Op5} (fE : FitL E) (h : canonB E = true) {m : Nat} {o : Op5} (ho : E[m]? = some o) :
    canonB (E.take m ++ [o] ++ E.drop m) = (decide ((lensL (E.take m ++ [o] ++ E.drop m)).2.2 = 0) && (o.k == 2)) ∧
    ((lensL (E.take m ++ [o] ++ E.drop m)).2.2 = 0 → 0 ≤ (lensL (E.take m ++ [o] ++ E.drop m)).1 ∧ 0 ≤ (lensL (E.take m ++ [o] ++ E.drop m)).2.1) := by
  obtain ⟨hg, h1, h2, h3, h4⟩ := canon_good fE h
  have hm : m < E.length := (List.getElem?_eq_some_iff.1 ho).1
  have hd : E.drop m = o :: E.drop (m + 1) := by
    rw [List.drop_eq_getElem_cons hm, (List.getElem?_eq_some_iff.1 ho).2]
  have hE : E.take m ++ o :: E.drop (m + 1) = E := by rw [← hd, List.take_append_drop]
  have ht : E.take m ++ [o] ++ E.drop m = E.take m ++ o :: o :: E.drop (m + 1) := by rw [hd]; simp
  have gT : GoodL (E.take m ++ [o] ++ E.drop m) := fun x hx => by
    simp only [List.mem_append, List.mem_singleton] at hx
    rcases hx with (hx | rfl) | hx
    · exact hg x (List.mem_of_mem_take hx)
    · exact hg x (List.mem_of_getElem? ho)
    · exact hg x (List.mem_of_mem_drop hx)
  have p := SB_pos gT
  have l := lensL_good gT
  refine ⟨?_, fun h0 => ?_⟩
  · unfold canonB
    rw [ht, chain_twice, last_twice, hE, h3, h4, apart_self (hg o (List.mem_of_getElem? ho)).1]
    simp
  · rw [l] at h0 ⊢
    by_cases hc : SB (E.take m ++ [o] ++ E.drop m) ≤ 1099511627776 ∧ SR (E.take m ++ [o] ++ E.drop m) ≤ 1099511627776
    · rw [if_pos hc]; exact p
    · rw [if_neg hc] at h0
      simp at h0

/-- Parts of a row of operations. -/
theorem RowO.take {w : World} {p : Option Addr} {n c : Nat} {D : List OV} (h : RowO w (.slice p n c) D) {m : Nat} (hm : m ≤ n) : RowO w (.slice p m c) (D.take m) := by
  obtain ⟨p', c', hv, hl, hn, hc⟩ := h
  simp only [Value.slice.injEq] at hv
  obtain ⟨rfl, rfl, rfl⟩ := hv
  have hlen : (D.take m).length = m := by rw [List.length_take]; omega
  refine ⟨p, c, by rw [hlen], by omega, hn, fun j d hd => ?_⟩
  have hj := (List.getElem?_eq_some_iff.1 hd).1
  rw [hlen] at hj
  rw [List.getElem?_take_of_lt hj] at hd
  exact hc j d hd
theorem RowO.drop {w : World} {b off n c : Nat} {D : List OV} (h : RowO w (.slice (some ⟨b, off, none⟩) n c) D) {m : Nat} (hm : m ≤ n) : RowO w (.slice (some ⟨b, off + m * 7, none⟩) (n - m) (c - m)) (D.drop m) := by
  obtain ⟨p', c', hv, hl, hn, hc⟩ := h
  simp only [Value.slice.injEq] at hv
  obtain ⟨rfl, rfl, rfl⟩ := hv
  refine ⟨some ⟨b, off + m * 7, none⟩, c - m, by rw [List.length_drop], (by rw [List.length_drop]; omega), (fun h => nomatch h), fun j d hd => ?_⟩
  rw [List.getElem?_drop] at hd
  obtain ⟨b', off', hp, hat⟩ := hc _ d hd
  simp only [Option.some.injEq, Addr.mk.injEq, and_true] at hp
  obtain ⟨rfl, rfl⟩ := hp
  exact ⟨_, _, rfl, by rw [show off + m * 7 + j * 7 = off + (m + j) * 7 by omega]; exact hat⟩
theorem all2_take {α β : Type} {R : α → β → Prop} : ∀ {L : List α} {M : List β}, All2 R L M → ∀ m, All2 R (L.take m) (M.take m)
  | [], [], _, m => by rw [List.take_nil, List.take_nil]; exact .nil
  | x :: L, y :: M, .cons h1 h2, 0 => .nil
  | x :: L, y :: M, .cons h1 h2, m + 1 => .cons h1 (all2_take h2 m)
theorem all2_drop {α β : Type} {R : α → β → Prop} : ∀ {L : List α} {M : List β}, All2 R L M → ∀ m, All2 R (L.drop m) (M.drop m)
  | [], [], _, m => by rw [List.drop_nil, List.drop_nil]; exact .nil
  | x :: L, y :: M, .cons h1 h2, 0 => .cons h1 h2
  | x :: L, y :: M, .cons h1 h2, m + 1 => all2_drop h2 m
theorem ReD.take {w : World} {D : List OV} {E : List Op5} (h : ReD w D E) (m : Nat) : ReD w (D.take m) (E.take m) := all2_take h m
theorem ReD.drop {w : World} {D : List OV} {E : List Op5} (h : ReD w D E) (m : Nat) : ReD w (D.drop m) (E.drop m) := all2_drop h m

/-- append onto a row of the call's own, as one step of a region that draws its order. -/
theorem step_append_rowO {ops : Array Oper} {o : Oper} {a : Act} {w : World} {K : Act → World → Prop} {Q : Exit → Act → World → Prop} {E : Prop}
    (hg : o.guard = none) (s x : Operand) (hop : o.op = Op.call { callee := Callee.builtin Builtin.append, args := #[s, x], argTypes := #[22, 22] })
    (base : Nat) (v : Value) (L : List OV) (hs : a.eval s = v) (hown : OwnO w base v L)
    (b off m c : Nat) (M : List OV) (hx : a.eval x = .slice (some ⟨b, off, none⟩) m c) (hM : RowO w (.slice (some ⟨b, off, none⟩) m c) M)
    (h63 : L.length + M.length ≤ 33554432) (hbase : base ≤ w.heap.size)
    (hK : ∀ v' w', OwnO w' base v' (L ++ M) → w.grownBy w' v.ownBlock → K (a.put o.dst v') w') :
    if Region.wanted o (yielded ops a.tmps) = true then Oper.wp Tryd.prog o a w K Q else E := by
  have hw : Region.wanted o (yielded ops a.tmps) = true := by simp [Region.wanted, hg]
  rw [if_pos hw]
  obtain ⟨i, z, hi, hz, hz1, hz2, hz3⟩ := infoOp
  obtain ⟨p', c', hv, hcap, hnz, hc⟩ := hM
  simp only [Value.slice.injEq] at hv
  obtain ⟨rfl, hm, rfl⟩ := hv
  obtain ⟨v', w', hrun, r1, r2, _⟩ := run_append_own (P := Tryd.prog) w base 22 o.type 37 i z 7 88 Tryd.underlying22 hi hz hz1 hz2 hz3 (by decide) v L.length (cellsO L) hown ⟨b, off, none⟩ m c (cellsO M) (by rw [cellsO_len, hm]) (fun j u hu => by
    obtain ⟨i, d, hd, hh⟩ := cellsO_inv M j u hu
    obtain ⟨b', off', hp, h0, h1, h2, h3, h4, h5, h6⟩ := hc i d hd
    simp only [Option.some.injEq, Addr.mk.injEq, and_true] at hp
    obtain ⟨rfl, rfl⟩ := hp
    rw [Addr.add_lit]
    rcases hh with ⟨rfl, rfl⟩ | ⟨rfl, rfl⟩ | ⟨rfl, rfl⟩ | ⟨rfl, rfl⟩ | ⟨rfl, rfl⟩ | ⟨rfl, rfl⟩ | ⟨rfl, rfl⟩
    · exact h0
    · exact h1
    · exact h2
    · exact h3
    · exact h4
    · exact h5
    · exact h6) (cellsO_one _) (by unfold maxLen; omega) (by omega) hbase
  unfold Oper.wp
  simp [execOp, hop, resolve, invoke, builtin, hs, hx, hrun, Result.andThen]
  refine hK v' w' ?_ r2
  show w'.ownsRow _ _ _ _ _ _
  rw [cellsO_append, List.length_append, ← hm]
  exact r1
end Go.Proofs.YtkgflmbhkbeakabDoor

/- Of all lists of operations and numbers vellumlaw05.OpsBeginnings answers true. -/
namespace Go.Proofs.YtkgflmbhkbeakabDoor
open Go Go.RowKit Go.Lib
set_option linter.unusedVariables false

theorem m_of5 (more : Int) (m : Int) (hm : 0 < m) (hz : m ≤ 281474976710657) : ∃ k : Nat, wrap64 ((IntKind.u64.wrap more).tmod m) = k ∧ (k : Int) < m := by
  obtain ⟨U, hU⟩ : ∃ U, IntKind.u64.wrap more = U := ⟨_, rfl⟩
  have hU0 : 0 ≤ U := by
    rw [← hU, IntKind.wrap_u64]; omega
  rw [hU, Int.tmod_eq_emod_of_nonneg hU0]
  have h1 := Int.emod_nonneg U (show m ≠ 0 by omega)
  have h2 := Int.emod_lt_of_pos U hm
  obtain ⟨R, hR⟩ : ∃ R, U % m = R := ⟨_, rfl⟩
  rw [hR] at h1 h2 ⊢
  refine ⟨R.toNat, ?_, by omega⟩
  unfold wrap64
  omega
theorem re_app5 {w : World} {B : Nat} {v : Value} {D M : List OV} {E F : List Op5} (h : OwnO w B v (D ++ M)) (h1 : ReD w D E) (h2 : ReD w M F) : ReO w v (E ++ F) := ⟨D ++ M, own_rowO h, forall2_append h1 h2⟩

theorem rowO_new (W : World) (f : Int) (t : ByteArray) (xx z : Int) (u : ByteArray) (cc : Int) (p : Option Addr) (l c : Nat) : RowO (W.alloc (.cells #[.int .i64 f, .string t, .int .i64 xx, .int .i64 z, .string u, .int .i64 cc, .slice p l c] 37)) (.slice (some ⟨W.heap.size, 0, none⟩) 1 1) [(f, t, (xx, z, u), cc, p, l, c)] :=
  ⟨_, _, rfl, Nat.le_refl _, (fun h => nomatch h), fun j d hd => by
    match j, hd with
    | 0, hd =>
      obtain rfl := Option.some.inj hd
      exact ⟨_, _, rfl, ⟨by simp, by simp, by simp, by simp, by simp, by simp, by simp⟩⟩
    | j + 1, hd => simp at hd⟩
set_option maxHeartbeats 2000000 in
set_option maxRecDepth 100000 in
theorem begs_no {ad : Nat → Addr} (va : Value) (x : Int) (w : World) (hva : ∃ p n c, va = .slice p n c)
    (cF : Calls Tryd.prog 6 #[] w fun r w' => r = .returned (.bool true) ∧ Below w.heap.size w w')
    (cA : ∀ W, Below w.heap.size w W → Calls Tryd.prog 10 #[va] W fun r w' => r = .returned (.bool false) ∧ Below W.heap.size W w') :
    Calls Tryd.prog 4 #[va, .int .i64 x] w fun r w' => r = .returned (.bool true) ∧ Below w.heap.size w w' := by
  obtain ⟨p, n, c, rfl⟩ := hva
  go_enter Tryd.func4, Tryd.ntmps4
  go_wp2_with fail
  refine cF.mono ?_; rintro r w1 ⟨rfl, h1⟩
  go_wp2_with fail
  refine (cA _ h1).mono ?_; rintro r w2 ⟨rfl, g2⟩
  have h2 := h1.trans (g2.mono h1.size)
  go_wp2
  go_ret
  exact ⟨rfl, h2⟩

set_option maxHeartbeats 4000000 in
set_option maxRecDepth 100000 in
theorem begs_yes {ad : Nat → Addr} (pa : Option Addr) (na ca m : Nat) (x : Int) (A : List Op5) (D : List OV) (q : Bool) (w : World)
    (rA : RowO w (.slice pa na ca) D) (hA : ReD w D A) (lA : D.length = na) (hn : na + 1 ≤ 1048576)
    (hk : wrap64 ((IntKind.u64.wrap x).tmod ((na : Int) + 1)) = (m : Int)) (hm : m ≤ na) (hq : plainAt A m = q)
    (cF : Calls Tryd.prog 6 #[] w fun r w' => r = .returned (.bool true) ∧ Below w.heap.size w w')
    (cA : ∀ W, Below w.heap.size w W → Calls Tryd.prog 10 #[.slice pa na ca] W fun r w' => r = .returned (.bool true) ∧ Below W.heap.size W w')
    (cB : ∀ W, Below w.heap.size w W → Calls Tryd.prog 10 #[.slice pa m ca] W fun r w' => r = .returned (.bool (!q)) ∧ Below W.heap.size W w')
    (cC : ∀ W, Below w.heap.size w W → Calls Tryd.prog 8 #[.slice pa m ca] W fun r w' => ∃ v', r = .returned v' ∧ CoO w' W.heap.size v' (A.take m) ∧ Below W.heap.size W w')
    (cX : ∀ o, A[m]? = some o → ∀ s W, Below w.heap.size w W → RN W s o.A → Calls Tryd.prog 11 #[opV o s] W fun r w' => r = .returned .nilIface ∧ Below W.heap.size W w')
    (cL : ∀ o, A[m]? = some o → ∀ W u9, Below w.heap.size w W → ReO W u9 (A.take m ++ [o] ++ A.drop m) → ∃ (e9 : Value) (b9 r9 : Int) (y : Bool), (∃ k, y = false ∧ e9 = errV ad k ∨ y = true ∧ e9 = .nilIface ∧ 0 ≤ b9 ∧ 0 ≤ r9) ∧
      (Calls Tryd.prog 7 #[u9] W fun r w' => r = .returned (.tuple #[.int .i64 b9, .int .i64 r9, e9]) ∧ Below W.heap.size W w') ∧
      ∀ W', Below W.heap.size W W' → Calls Tryd.prog 10 #[u9] W' fun r w' => r = .returned (.bool (y && (o.k == 2))) ∧ Below W'.heap.size W' w') :
    Calls Tryd.prog 4 #[.slice pa na ca, .int .i64 x] w fun r w' => r = .returned (.bool true) ∧ Below w.heap.size w w' := by
  have hca : na ≤ ca := by
    obtain ⟨p', c', hv, hl, _⟩ := rA
    simp only [Value.slice.injEq] at hv
    omega
  have HR : Hid (RowO w (.slice pa na ca) D ∧ ReD w D A ∧ D.length = na) := ⟨rA, hA, lA⟩
  have HQ : Hid (plainAt A m = q) := hq
  have cA : Hid _ := cA
  have cB : Hid _ := cB
  have cC : Hid _ := cC
  have cX : Hid _ := cX
  have cL : Hid _ := cL
  have hmI : (m : Int) ≤ na := by omega
  have hmc : (m : Int) ≤ ca := by omega
  have hm0 : (0 : Int) ≤ m := by omega
  have hnaI : (na : Int) ≤ ca := by omega
  clear rA hA hq lA
  go_enter Tryd.func4, Tryd.ntmps4
  go_wp2_with fail
  refine cF.mono ?_; rintro r w1 ⟨rfl, h1⟩
  clear cF
  go_wp2_with fail
  refine (cA.out _ h1).mono ?_; rintro r w2 ⟨rfl, g2⟩
  have h2 := h1.trans (g2.mono h1.size)
  clear g2 h1 cA
  go_upto_region 7 with fail
  simp only [hk]
  go_cut [6] (fun x6 wx => x6 = .bool q ∧ wx = w2)
  case first =>
    have HQ' := HQ.out
    cases m with
    | zero =>
      have hz : decide ((0 : Int) < ((0 : Nat) : Int)) = false := by decide
      obtain rfl : false = q := HQ'
      go_wp2_with fail
      go_meet
      exact ⟨rfl, rfl⟩
    | succ j =>
      obtain ⟨d, hd⟩ : ∃ q, D[j]? = some q := ⟨_, List.getElem?_eq_getElem (by rw [HR.out.2.2]; omega)⟩
      obtain ⟨e, he, hr⟩ := forall2_get HR.out.2.1 j d hd
      have hp : plainR e = q := by
        rw [plainAt] at HQ'
        simpa only [he] using HQ'
      have HP : Hid (plainR e = q) := hp
      obtain ⟨p', c', hv, _, _, hc⟩ := HR.out.1
      simp only [Value.slice.injEq] at hv
      obtain ⟨rfl, hlen, rfl⟩ := hv
      obtain ⟨b, off, rfl, hin⟩ := hc j d hd
      obtain ⟨c0, c1, c2, c3, c4, c5, c6⟩ := hin.below h2
      obtain ⟨f, t, ⟨xx, z, u⟩, cc1, p, l, c⟩ := d
      have hf : f = e.k := hr.1
      have hl2 : l = e.A.length := by
        obtain ⟨p9, c9, hv9, _⟩ := hr.2.2.2.2.row.val
        simp only [slV, Value.slice.injEq] at hv9
        exact hv9.2.1
      have HF : Hid (f = e.k ∧ l = e.A.length) := ⟨hf, hl2⟩
      simp only [slV] at c0 c6
      clear hr hin hc hd he hp HQ' hlen hf hl2 c1 c2 c3 c4 c5
      have hpos : decide ((0 : Int) < ((j + 1 : Nat) : Int)) = true := decide_eq_true (by omega)
      have hpos' : decide ((0 : Int) < (j : Int) + 1) = true := decide_eq_true (by omega)
      have hj1 : ((j : Int) + 1 - 1) = (j : Int) := by omega
      by_cases h3 : f = 3
      · subst h3
        have hz : ((l : Int) == 0) = q := by
          rw [← HP.out]
          unfold plainR
          rw [← HF.out.1, Bool.eq_iff_iff]
          have := HF.out.2
          cases hA : e.A with
          | nil =>
            rw [hA] at this
            simp only [List.length_nil] at this
            subst this
            exact ⟨fun _ => rfl, fun _ => rfl⟩
          | cons y r =>
            rw [hA] at this
            simp only [List.length_cons] at this
            constructor
            · intro h; have := eq_of_beq h; omega
            · intro h; simp at h
        go_wp2_with fail
        go_meet
        exact ⟨rfl, rfl⟩
      · have hz : (f == 3) = false := by simpa using h3
        obtain rfl : false = q := by
          rw [← HP.out]
          unfold plainR
          rw [← HF.out.1, hz]
          rfl
        go_wp2_with fail
        go_meet
        exact ⟨rfl, rfl⟩
  case rest =>
    obtain ⟨rfl, rfl⟩ := hcut
    go_wp2_with fail
    refine (cB.out _ h2).mono ?_; rintro r w3 ⟨rfl, g3⟩
    have h3 := h2.trans (g3.mono h2.size)
    clear g3 h2 cB
    have hqq : ((!q) == q) = false := by cases q <;> rfl
    by_cases hlast : m = na
    · subst hlast
      clear hk
      go_wp2_with fail
      go_ret
      exact ⟨rfl, h3⟩
    · have hne : ((m : Int) == (na : Int)) = false := by
        rw [beq_eq_false_iff_ne]
        omega
      have hlt : m < na := by omega
      have hltI : (m : Int) < na := by omega
      obtain ⟨d, hd⟩ : ∃ q, D[m]? = some q := ⟨_, List.getElem?_eq_getElem (by rw [HR.out.2.2]; omega)⟩
      obtain ⟨o, ho, hr⟩ := forall2_get HR.out.2.1 m d hd
      obtain ⟨b, off, rfl, hin⟩ : ∃ b off, pa = some ⟨b, off, none⟩ ∧ OpAt w b (off + m * 7) d := by
        obtain ⟨p', c', hv, _, _, hc⟩ := HR.out.1
        simp only [Value.slice.injEq] at hv
        obtain ⟨rfl, _, _⟩ := hv
        exact hc m d hd
      have HD : Hid (D[m]? = some d ∧ A[m]? = some o ∧ d.1 = o.k ∧ d.2.1 = o.t ∧ d.2.2.1 = o.v ∧ d.2.2.2.1 = o.c ∧ RN w (slV d.2.2.2.2) o.A ∧ OpAt w b (off + m * 7) d) := ⟨hd, ho, hr.1, hr.2.1, hr.2.2.1, hr.2.2.2.1, hr.2.2.2.2, hin⟩
      have hoV := opV_of hr
      have CX : Hid (∀ W, Below w.heap.size w W → Calls Tryd.prog 11 #[ovV d] W fun r w' => r = .returned .nilIface ∧ Below W.heap.size W w') := fun W hW => by
        rw [hoV]
        exact cX.out o ho _ W hW (hr.2.2.2.2.below hW)
      have CL : Hid _ := cL.out o ho
      have Hk1 : Hid (d.1 = o.k) := hr.1
      obtain ⟨c0, c1, c2, c3, c4, c5, c6⟩ := hin.below h3
      clear hoV hd ho hr hin cX cL
      obtain ⟨f, t, ⟨xx, z, u⟩, cc1, p, l, c⟩ := d
      simp only [slV] at c0 c1 c2 c3 c4 c5 c6
      have HM : Hid (∀ W, Below w3.heap.size w3 W → (W.cell? ⟨b, off + m * 7, none⟩ = some (.int .i64 f) ∧ W.cell? ⟨b, off + m * 7 + 1, none⟩ = some (.string t) ∧ W.cell? ⟨b, off + m * 7 + 2, none⟩ = some (.int .i64 xx) ∧ W.cell? ⟨b, off + m * 7 + 3, none⟩ = some (.int .i64 z) ∧ W.cell? ⟨b, off + m * 7 + 4, none⟩ = some (.string u) ∧ W.cell? ⟨b, off + m * 7 + 5, none⟩ = some (.int .i64 cc1) ∧ W.cell? ⟨b, off + m * 7 + 6, none⟩ = some (.slice p l c))) := fun w' hb => ⟨(hb.cell (lt_of_cell c0)).trans c0, (hb.cell (lt_of_cell c1)).trans c1, (hb.cell (lt_of_cell c2)).trans c2, (hb.cell (lt_of_cell c3)).trans c3, (hb.cell (lt_of_cell c4)).trans c4, (hb.cell (lt_of_cell c5)).trans c5, (hb.cell (lt_of_cell c6)).trans c6⟩
      go_upto_region 12 with fail
      go_cut [7] (fun x7 wx => ReO wx x7 (A.take m ++ [o] ++ A.drop m) ∧ Below w3.heap.size w3 wx)
      case first =>
        obtain ⟨Z, hZ⟩ : ∃ Z : Obj, Z = .cells #[.int .i64 f, .string t, .int .i64 xx, .int .i64 z, .string u, .int .i64 cc1, .slice p l c] 37 := ⟨_, rfl⟩
        have b0 : Below w3.heap.size w3 w3.drew := (Below.refl w3.heap.size w3).drew
        have b1 : Below w3.heap.size w3 (w3.alloc (.cells #[.int .i64 f, .string t, .int .i64 xx, .int .i64 z, .string u, .int .i64 cc1, .slice p l c] 37)).drew := ((Below.refl w3.heap.size w3).alloc (Nat.le_refl _) _).drew
        have b1' : Below w3.heap.size w3 (w3.alloc (.cells #[.int .i64 f, .string t, .int .i64 xx, .int .i64 z, .string u, .int .i64 cc1, .slice p l c] 37)) := ((Below.refl w3.heap.size w3).alloc (Nat.le_refl _) _)
        have hn9 : ((A.take m).length : Nat) = m := by rw [List.length_take]; have := forall2_len HR.out.2.1; have := HR.out.2.2; omega
        have HN9 : Hid ((A.take m).length = m ∧ na ≤ 1048576) := ⟨hn9, by omega⟩
        have HH : Hid (Below w.heap.size w w3) := h3
        have HB : Hid (Below w3.heap.size w3 w3.drew ∧ Below w3.heap.size w3 (w3.alloc (.cells #[.int .i64 f, .string t, .int .i64 xx, .int .i64 z, .string u, .int .i64 cc1, .slice p l c] 37)).drew) := ⟨b0, b1⟩
        have HRT : Hid (∀ W, Below w3.heap.size w3 W → RowO W (.slice (some ⟨b, off + m * 7, none⟩) (na - m) (ca - m)) (D.drop m) ∧ ReD W (D.drop m) (A.drop m) ∧ ReD W [(f, t, (xx, z, u), cc1, p, l, c)] [o] ∧ (D.drop m).length = na - m) := fun W hW => by
          have hB := HH.out.trans (hW.mono HH.out.size)
          exact ⟨(HR.out.1.drop (by omega)).below hB, (HR.out.2.1.drop m).below hB, .cons ⟨HD.out.2.2.1, HD.out.2.2.2.1, HD.out.2.2.2.2.1, HD.out.2.2.2.2.2.1, HD.out.2.2.2.2.2.2.1.below hB⟩ .nil, by rw [List.length_drop, HR.out.2.2]⟩
        have mm0 := HM.out _ b0
        clear hn9
        go_region_held3 (fun w' => (w'.cell? ⟨b, off + m * 7, none⟩ = some (.int .i64 f) ∧ w'.cell? ⟨b, off + m * 7 + 1, none⟩ = some (.string t) ∧ w'.cell? ⟨b, off + m * 7 + 2, none⟩ = some (.int .i64 xx) ∧ w'.cell? ⟨b, off + m * 7 + 3, none⟩ = some (.int .i64 z) ∧ w'.cell? ⟨b, off + m * 7 + 4, none⟩ = some (.string u) ∧ w'.cell? ⟨b, off + m * 7 + 5, none⟩ = some (.int .i64 cc1) ∧ w'.cell? ⟨b, off + m * 7 + 6, none⟩ = some (.slice p l c)) ∧ Below w3.heap.size w3 w')
          (exact ⟨by first | (with_reducible assumption) | (with_reducible exact HM.out _ b1) | (with_reducible exact HM.out _ b1') | (with_reducible exact HM.out _ KA1) | (with_reducible exact HM.out _ KA1'), by first | (with_reducible assumption)⟩)
          (first
            | (go_at_call 8; refine (cC.out (w3.drew) (HH.out.trans (HB.out.1.mono HH.out.size))).mono ?_; rintro r wA ⟨v7, rfl, ⟨D7, own7, od7⟩, gA⟩; have KA := HB.out.1.trans (gA.mono HB.out.1.size); have mmA := HM.out _ KA; have KA1 : Below w3.heap.size w3 (wA.alloc (.cells #[.int .i64 f, .string t, .int .i64 xx, .int .i64 z, .string u, .int .i64 cc1, .slice p l c] 37)) := KA.alloc KA.size _; have KA1' : Below w3.heap.size w3 (wA.alloc (.cells #[.int .i64 f, .string t, .int .i64 xx, .int .i64 z, .string u, .int .i64 cc1, .slice p l c] 37)).drew := KA1.drew; have HC7 : Hid (OwnO wA w3.heap.size v7 D7 ∧ OwD wA w3.heap.size D7 (A.take m)) := ⟨own7, od7⟩; clear own7 od7; have hle8 : Hid (D7.length + [(f, t, ((xx, z, u) : P3), cc1, p, l, c)].length ≤ 33554432) := (by show _ ≤ _; rw [forall2_len HC7.out.2, HN9.out.1]; have := HN9.out.2; simp only [List.length_cons, List.length_nil]; omega); have hle9 : Hid ((D7 ++ [(f, t, ((xx, z, u) : P3), cc1, p, l, c)]).length + (D.drop m).length ≤ 33554432) := (by show _ ≤ _; rw [List.length_append, forall2_len HC7.out.2, HN9.out.1, (HRT.out _ KA).2.2.2]; have := HN9.out.2; simp only [List.length_cons, List.length_nil]; omega); have gZ := (Below.refl wA.heap.size wA).alloc (Nat.le_refl _) (.cells #[.int .i64 f, .string t, .int .i64 xx, .int .i64 z, .string u, .int .i64 cc1, .slice p l c] 37); have gZ' := gZ.drew)
            | (go_at_call 8; refine (cC.out ((w3.alloc (.cells #[.int .i64 f, .string t, .int .i64 xx, .int .i64 z, .string u, .int .i64 cc1, .slice p l c] 37)).drew) (HH.out.trans (HB.out.2.mono HH.out.size))).mono ?_; rintro r wA ⟨v7, rfl, ⟨D7, own7, od7⟩, gA⟩; have KA := HB.out.2.trans (gA.mono HB.out.2.size); have mmA := HM.out _ KA; have KA1 := KA; have KA1' := KA; have HC7 : Hid (OwnO wA w3.heap.size v7 D7 ∧ OwD wA w3.heap.size D7 (A.take m)) := ⟨own_weaken own7 HB.out.2.size, od7.weaken HB.out.2.size⟩; clear own7 od7; have hle8 : Hid (D7.length + [(f, t, ((xx, z, u) : P3), cc1, p, l, c)].length ≤ 33554432) := (by show _ ≤ _; rw [forall2_len HC7.out.2, HN9.out.1]; have := HN9.out.2; simp only [List.length_cons, List.length_nil]; omega); have hle9 : Hid ((D7 ++ [(f, t, ((xx, z, u) : P3), cc1, p, l, c)]).length + (D.drop m).length ≤ 33554432) := (by show _ ≤ _; rw [List.length_append, forall2_len HC7.out.2, HN9.out.1, (HRT.out _ KA).2.2.2]; have := HN9.out.2; simp only [List.length_cons, List.length_nil]; omega); have gZ := (Below.refl wA.heap.size wA).alloc (Nat.le_refl _) (.cells #[.int .i64 f, .string t, .int .i64 xx, .int .i64 z, .string u, .int .i64 cc1, .slice p l c] 37); have gZ' := gZ.drew)
            | (refine step_append_rowO rfl (.tmp 60) (.tmp 65) rfl w3.heap.size v7 D7 rfl (owns_below HC7.out.1 gZ) wA.heap.size 0 1 1 [(f, t, (xx, z, u), cc1, p, l, c)] rfl (rowO_new wA f t xx z u cc1 p l c) hle8.out (KA1).size ?_; intro v8 w8 own8 gr8; have b8 : Below w3.heap.size w3 w8 := (KA1).grown gr8 (KA1).size (fun j hj => (owns_block HC7.out.1 j hj).1); have mm8 := HM.out _ b8; have HC8 : Hid (OwnO w8 w3.heap.size v8 (D7 ++ [(f, t, (xx, z, u), cc1, p, l, c)]) ∧ OwD w8 w3.heap.size D7 (A.take m)) := ⟨own8, (HC7.out.2.below gZ).keep (keepA_grownO (owns_below HC7.out.1 gZ) gr8)⟩; clear own8 gr8)
            | (refine step_append_rowO rfl (.tmp 60) (.tmp 65) rfl w3.heap.size v7 D7 rfl (owns_below HC7.out.1 gZ') wA.heap.size 0 1 1 [(f, t, (xx, z, u), cc1, p, l, c)] rfl ((rowO_new wA f t xx z u cc1 p l c).below (Below.refl _ _).drew) hle8.out (KA1').size ?_; intro v8 w8 own8 gr8; have b8 : Below w3.heap.size w3 w8 := (KA1').grown gr8 (KA1').size (fun j hj => (owns_block HC7.out.1 j hj).1); have mm8 := HM.out _ b8; have HC8 : Hid (OwnO w8 w3.heap.size v8 (D7 ++ [(f, t, (xx, z, u), cc1, p, l, c)]) ∧ OwD w8 w3.heap.size D7 (A.take m)) := ⟨own8, (HC7.out.2.below gZ').keep (keepA_grownO (owns_below HC7.out.1 gZ') gr8)⟩; clear own8 gr8)
            | (refine step_append_rowO rfl (.tmp 60) (.tmp 65) rfl w3.heap.size v7 D7 rfl (HC7.out.1) w3.heap.size 0 1 1 [(f, t, (xx, z, u), cc1, p, l, c)] rfl (((rowO_new w3 f t xx z u cc1 p l c).below (Below.refl _ _).drew).below gA) hle8.out (KA).size ?_; intro v8 w8 own8 gr8; have b8 : Below w3.heap.size w3 w8 := (KA).grown gr8 (KA).size (fun j hj => (owns_block HC7.out.1 j hj).1); have mm8 := HM.out _ b8; have HC8 : Hid (OwnO w8 w3.heap.size v8 (D7 ++ [(f, t, (xx, z, u), cc1, p, l, c)]) ∧ OwD w8 w3.heap.size D7 (A.take m)) := ⟨own8, (HC7.out.2.below (Below.refl _ _)).keep (keepA_grownO (HC7.out.1) gr8)⟩; clear own8 gr8)
            | (refine step_append_rowO rfl (.tmp 66) (.tmp 69) rfl w3.heap.size v8 (D7 ++ [(f, t, (xx, z, u), cc1, p, l, c)]) rfl HC8.out.1 b (off + m * 7) (na - m) (ca - m) (D.drop m) rfl (HRT.out _ b8).1 hle9.out b8.size ?_; intro v9 w9 own9 gr9; have b9 : Below w3.heap.size w3 w9 := b8.grown gr9 b8.size (fun j hj => (owns_block HC8.out.1 j hj).1); have HC9 : Hid (ReO w9 v9 (A.take m ++ [o] ++ A.drop m)) := re_app5 own9 (forall2_append ((HC8.out.2.keep (keepA_grownO HC8.out.1 gr9)).re) (HRT.out _ b9).2.2.1) (HRT.out _ b9).2.1; have mm9 := HM.out _ b9; clear own9 gr9))
        all_goals (go_wp2_with fail)
        all_goals go_meet
        all_goals exact ⟨HC9.out, b9⟩
      case rest =>
        obtain ⟨hRe, b9⟩ := hcut
        have h9 := h3.trans (b9.mono h3.size)
        obtain ⟨e9, bb9, rr9, y, ⟨kk, hy⟩, cLe, cCa⟩ := CL.out _ _ h9 hRe
        rw [← Hk1.out] at cCa
        obtain ⟨m0, m1, m2, m3, m4, m5, m6⟩ := HM.out _ b9
        simp only [ovV, ovC, slV] at CX
        have HM9 : Hid (∀ W, Below wc.heap.size wc W → (W.cell? ⟨b, off + m * 7, none⟩ = some (.int .i64 f) ∧ W.cell? ⟨b, off + m * 7 + 1, none⟩ = some (.string t) ∧ W.cell? ⟨b, off + m * 7 + 2, none⟩ = some (.int .i64 xx) ∧ W.cell? ⟨b, off + m * 7 + 3, none⟩ = some (.int .i64 z) ∧ W.cell? ⟨b, off + m * 7 + 4, none⟩ = some (.string u) ∧ W.cell? ⟨b, off + m * 7 + 5, none⟩ = some (.int .i64 cc1) ∧ W.cell? ⟨b, off + m * 7 + 6, none⟩ = some (.slice p l c))) := fun w' hb => HM.out _ (b9.trans (hb.mono b9.size))
        clear hRe CL HR cC HD HM c0 c1 c2 c3 c4 c5 c6 cA cB
        have cCa : Hid _ := cCa
        rcases hy with ⟨rfl, rfl⟩ | ⟨rfl, rfl, hb0, hr0⟩
        · go_wp2_with fail
          refine cLe.mono ?_; rintro r w5 ⟨rfl, g5⟩
          have h5 := h9.trans (g5.mono h9.size)
          have cCb := cCa.out _ g5
          obtain ⟨n0, n1, n2, n3, n4, n5, n6⟩ := HM9.out _ g5
          clear cLe m0 m1 m2 m3 m4 m5 m6
          simp only [Bool.false_and] at cCb
          go_wp2_with fail
          refine cCb.mono ?_; rintro r w6 ⟨rfl, g6⟩
          have h6 := h5.trans (g6.mono h5.size)
          obtain ⟨m0, m1, m2, m3, m4, m5, m6⟩ := HM9.out _ (g5.trans (g6.mono g5.size))
          clear n0 n1 n2 n3 n4 n5 n6
          go_wp2_with fail
          refine (CX.out _ h6).mono ?_; rintro r w7 ⟨rfl, g7⟩
          go_wp2
          go_ret
          exact ⟨rfl, h6.trans (g7.mono h6.size)⟩
        · by_cases hf2 : f = 2
          · subst hf2
            go_wp2_with fail
            refine cLe.mono ?_; rintro r w5 ⟨rfl, g5⟩
            have h5 := h9.trans (g5.mono h9.size)
            have cCb := cCa.out _ g5
            obtain ⟨n0, n1, n2, n3, n4, n5, n6⟩ := HM9.out _ g5
            clear cLe m0 m1 m2 m3 m4 m5 m6
            simp only [Bool.true_and, beq_self_eq_true] at cCb
            go_wp2_with fail
            refine cCb.mono ?_; rintro r w6 ⟨rfl, g6⟩
            have h6 := h5.trans (g6.mono h5.size)
            obtain ⟨m0, m1, m2, m3, m4, m5, m6⟩ := HM9.out _ (g5.trans (g6.mono g5.size))
            clear n0 n1 n2 n3 n4 n5 n6
            go_wp2_with fail
            refine (CX.out _ h6).mono ?_; rintro r w7 ⟨rfl, g7⟩
            go_wp2
            go_ret
            exact ⟨rfl, h6.trans (g7.mono h6.size)⟩
          · have hf2' : (f == 2) = false := by simpa using hf2
            go_wp2_with fail
            refine cLe.mono ?_; rintro r w5 ⟨rfl, g5⟩
            have h5 := h9.trans (g5.mono h9.size)
            have cCb := cCa.out _ g5
            obtain ⟨n0, n1, n2, n3, n4, n5, n6⟩ := HM9.out _ g5
            clear cLe m0 m1 m2 m3 m4 m5 m6
            rw [hf2'] at cCb
            simp only [Bool.true_and] at cCb
            go_wp2_with fail
            refine cCb.mono ?_; rintro r w6 ⟨rfl, g6⟩
            have h6 := h5.trans (g6.mono h5.size)
            obtain ⟨m0, m1, m2, m3, m4, m5, m6⟩ := HM9.out _ (g5.trans (g6.mono g5.size))
            clear n0 n1 n2 n3 n4 n5 n6
            go_wp2_with fail
            refine (CX.out _ h6).mono ?_; rintro r w7 ⟨rfl, g7⟩
            go_wp2
            go_ret
            exact ⟨rfl, h6.trans (g7.mono h6.size)⟩
theorem opsBeg_any {I : List Nat} {ad : Nat → Addr} (va : Value) (x : Int) (A : List Op5) (w : World) (hI : ∀ i ∈ IxO, i ∈ I) (hS : Std I ad w) (ra : ReO w va A) (fA : FitL A) (lA : A.length + 1 ≤ 1048576) (hx : -9223372036854775808 ≤ x ∧ x ≤ 9223372036854775807) :
    Calls Tryd.prog 4 #[va, .int .i64 x] w fun r w' => r = .returned (.bool true) ∧ Below w.heap.size w w' := by
  have cF := fixed5_any w hI hS
  have cA := fun W (hW : Below w.heap.size w W) => canon_any va A W hI (hS.below hW) (ra.below hW) fA (by omega)
  cases hc : canonB A with
  | false =>
    rw [hc] at cA
    refine begs_no (ad := ad) va x w ?_ cF cA
    obtain ⟨D, ⟨p, c, h, _⟩, _⟩ := ra
    exact ⟨_, _, _, h⟩
  | true =>
    rw [hc] at cA
    obtain ⟨m, hk, hm⟩ := m_of5 x ((A.length : Int) + 1) (by omega) (by omega)
    have hm : m ≤ A.length := by omega
    have rb := ra
    obtain ⟨D, hrow, hre⟩ := rb
    have hl := forall2_len hre
    obtain ⟨p, cap, rfl, _⟩ := id hrow
    have fT : FitL (A.take m) := fun o ho => fA o (List.mem_of_mem_take ho)
    have lT : (A.take m).length ≤ 1048576 := by rw [List.length_take]; omega
    have rT : ∀ W, Below w.heap.size w W → ReO W (.slice p m cap) (A.take m) := fun W hW => ⟨D.take m, (hrow.take (by omega)).below hW, (hre.take m).below hW⟩
    have cB := fun W (hW : Below w.heap.size w W) => canon_any (.slice p m cap) (A.take m) W hI (hS.below hW) (rT W hW) fT lT
    rw [canon_take fA hc hm] at cB
    have cC := fun W (hW : Below w.heap.size w W) => copied5_any (.slice p m cap) (A.take m) W (rT W hW) lT (fun e he => (fT e he).n)
    have hg := (canon_good fA hc).1
    have cX : ∀ o, A[m]? = some o → ∀ s W, Below w.heap.size w W → RN W s o.A → Calls Tryd.prog 11 #[opV o s] W fun r w' => r = .returned .nilIface ∧ Below W.heap.size W w' := fun o ho s W hW hR => by
      have := checkO_any (a := ad) o s W hI (hS.below hW) hR (fA o (List.mem_of_getElem? ho))
      rw [(hg o (List.mem_of_getElem? ho)).1, errOf_zero] at this
      exact this
    rw [hl] at hrow cA ⊢
    refine begs_yes (ad := ad) p A.length cap m x A D _ w hrow hre hl lA hk hm rfl cF cA cB cC cX ?_
    intro o ho W u9 hW hR
    obtain ⟨t1, t2⟩ := canon_twice fA hc ho
    have fW : FitL (A.take m ++ [o] ++ A.drop m) := fun y hy => by
      simp only [List.mem_append, List.mem_singleton] at hy
      rcases hy with (hy | rfl) | hy
      · exact fA y (List.mem_of_mem_take hy)
      · exact fA y (List.mem_of_getElem? ho)
      · exact fA y (List.mem_of_mem_drop hy)
    have lW : (A.take m ++ [o] ++ A.drop m).length ≤ 1048576 := by
      simp only [List.length_append, List.length_take, List.length_drop, List.length_cons, List.length_nil]; omega
    have d1 := lens_any (a := ad) u9 _ W hI (hS.below hW) hR fW lW
    have d2 := fun W' (hW' : Below W.heap.size W W') => canon_any (a := ad) u9 _ W' hI (hS.below (hW.trans (hW'.mono hW.size))) (hR.below hW') fW lW
    rw [t1] at d2
    obtain ⟨⟨x9, y9, z9⟩, hL⟩ : ∃ q, lensL (A.take m ++ [o] ++ A.drop m) = q := ⟨_, rfl⟩
    rw [hL] at d1 d2 t2
    simp only at d1 d2 t2
    cases z9 with
    | zero => exact ⟨_, x9, y9, true, ⟨0, Or.inr ⟨rfl, rfl, (t2 rfl).1, (t2 rfl).2⟩⟩, by rw [errOf_zero] at d1; exact d1, by simpa using d2⟩
    | succ k => exact ⟨_, x9, y9, false, ⟨k, Or.inl ⟨rfl, rfl⟩⟩, by rw [errOf_succ] at d1; exact d1, by simpa using d2⟩
end Go.Proofs.YtkgflmbhkbeakabDoor
