/- What a row's list of sentinel errors gives a walk, for whatever program and however many sentinels: each variable's cell, each text, no two pointers alike; and that it outlives whatever lays new blocks. -/
import Derived.LaidLaws
import Derived.Below
import Derived.LaidEql
import Derived.Stop.LaidErr
import Derived.WalkKit
import Derived.Deep.QuietTactic
namespace Go.Proofs.YtplnojapnaaakaaGreatDoor
open Go Go.RowKit Go.ChangeShapes
def mkErr (x : String × List UInt8) : String × DataW Unit := (x.1, .iface "*errors.errorString" (.ptr (.agg [.lit (.string x.2)])))

theorem sents_of_laid {P : Program} {W : World} {ti tp te ts : TypeId} {ms : Array (String × TypeId)} {f : Field} {rest : List (String × DataW Unit)} {all : List MemPlace}
    (hi : P.underlying ti = some (.interface ms)) (hrow : ∀ u, P.typeName? 3 u = some "*errors.errorString" → u = tp)
    (hp : P.underlying tp = some (.pointer te)) (he : P.underlying te = some (.struct #[f])) (hft : f.type = ts) (hfo : f.offset = 0) (hs : P.underlying ts = some .string) (hc : P.cellsOf te = 1) (hcs : P.cellsOf ts = 1)
    (hrows : ∀ b off, MemPlace.cell b off ∈ all → (∃ c t, W.heap[b]? = some (.cells c t (0, 0))) ∧ ∀ u v, W.cell? ⟨b, off, none⟩ = some (.iface u v) → Value.okWide P W .any 0 u v) :
    ∀ (l : List (String × List UInt8)) (ps : List MemPlace), (∀ x ∈ l, ∃ g, P.globalNamed x.1 = some g ∧ (P.globals[g]?).map (·.type) = some ti) →
      DataW.LaidVars P W (l.map mkErr ++ rest) ps → ps.Nodup → (∀ p ∈ ps, p ∈ all) →
      ∃ as : List Addr, as.length = l.length ∧ as.Nodup ∧ (∀ a ∈ as, MemPlace.cell a.block a.off ∈ ps) ∧
        ∀ (i : Nat) x a, l[i]? = some x → as[i]? = some a → ∃ g, P.globalNamed x.1 = some g ∧ W.cell? ⟨g, 0, none⟩ = some (.iface tp (.pointer (some a))) ∧
          (∃ s : ByteArray, W.cell? a = some (.string s) ∧ s.data.toList = x.2 ∧ s.size ≤ maxLen) ∧ ∃ c t, W.heap[a.block]? = some (.cells c t (0, 0))
  | [], ps, _, _, _, _ => ⟨[], rfl, List.nodup_nil, fun a h => (by cases h), fun i x a h _ => (by simp at h)⟩
  | x :: l, ps, hg, hv, hnd, hall => by
    obtain ⟨g, t, cs, fuel, p, q, hg0, ht0, hv0, hd0, hq, rfl⟩ := hv
    obtain ⟨g', hg', ht'⟩ := hg x (by simp)
    obtain rfl := Option.some.inj (hg'.symm.trans hg0)
    obtain rfl := Option.some.inj (ht'.symm.trans ht0)
    obtain ⟨as, hl, hn, hm, hel⟩ := sents_of_laid hi hrow hp he hft hfo hs hc hcs hrows l q (fun y hy => hg y (by simp [hy])) hq
      (List.Nodup.sublist (List.sublist_append_right _ _) hnd) (fun y hy => hall y (List.mem_append_right _ hy))
    obtain ⟨l0⟩ := cs
    have ok0 : ∀ u v, l0 = [.iface u v] → Value.okWide P W .any 0 u v := fun u v e => by
      subst e
      exact (hrows g' 0 (hall _ (by simp [MemPlace.row]))).2 u v (by simpa using World.var?_cell hg0 hv0 0)
    obtain ⟨a0, s0, rfl, hc0, hs0, hz0, rfl⟩ := errorString_of_trod hi hrow hp he hft hfo hs hc hcs hd0 ok0
    refine ⟨a0 :: as, by simp [hl], ?_, ?_, ?_⟩
    · refine List.nodup_cons.2 ⟨fun hin => ?_, hn⟩
      have h1 := hm a0 hin
      have h2 : MemPlace.cell a0.block a0.off ∈ MemPlace.row a0 1 := by simp [MemPlace.row]
      exact (List.nodup_append.1 hnd).2.2 _ (List.mem_append_right _ h2) _ h1 rfl
    · intro a ha
      rcases List.mem_cons.1 ha with rfl | ha
      · simp [MemPlace.row]
      · exact List.mem_append_right _ (hm a ha)
    · intro i y a hy ha
      cases i with
      | zero =>
        simp only [List.getElem?_cons_zero, Option.some.injEq] at hy ha
        subst hy; subst ha
        refine ⟨g', hg0, by simpa using World.var?_cell hg0 hv0 0, ⟨s0, hc0, hs0, hz0⟩, ?_⟩
        exact (hrows a0.block a0.off (hall _ (by simp [MemPlace.row]))).1
      | succ i =>
        simp only [List.getElem?_cons_succ] at hy ha
        exact hel i y a hy ha

/-- The sentinels as a world holds them: 'g i' the i-th variable's block, 'a i' where it points, 't i' its text. -/
structure Errs (n : Nat) (tp : TypeId) (g : Nat → Nat) (t : Nat → List UInt8) (a : Nat → Addr) (w : World) : Prop where
  cell : ∀ i, i < n → w.cell? ⟨g i, 0, none⟩ = some (.iface tp (.pointer (some (a i))))
  text : ∀ i, i < n → ∃ s : ByteArray, w.cell? (a i) = some (.string s) ∧ s.data.toList = t i ∧ s.size ≤ maxLen
  heap : ∀ i, i < n → ∃ c ty, w.heap[(a i).block]? = some (.cells c ty (0, 0))
  inj : ∀ i j, i < n → j < n → a i = a j → i = j

theorem lt_of_cell {w : World} {a : Addr} {v : Value} (h : w.cell? a = some v) : a.block < w.heap.size := by
  rcases Nat.lt_or_ge a.block w.heap.size with h' | h'
  · exact h'
  · simp [World.cell?, Array.getElem?_eq_none h'] at h

theorem Errs.below {n : Nat} {tp : TypeId} {g : Nat → Nat} {t : Nat → List UInt8} {a : Nat → Addr} {w w' : World} (h : Errs n tp g t a w) (hb : Below w.heap.size w w') : Errs n tp g t a w' :=
  ⟨fun i hi => by rw [hb.cell (lt_of_cell (h.cell i hi))]; exact h.cell i hi,
   fun i hi => by
    obtain ⟨s, hs, r⟩ := h.text i hi
    exact ⟨s, by rw [hb.cell (lt_of_cell hs)]; exact hs, r⟩,
   fun i hi => by
    obtain ⟨s, hs, _⟩ := h.text i hi
    rw [hb.block _ (lt_of_cell hs)]; exact h.heap i hi,
   h.inj⟩

theorem errs_of_laid {P : Program} {W : World} {ti tp te ts : TypeId} {ms : Array (String × TypeId)} {f : Field} {rest : List (String × DataW Unit)} (l : List (String × List UInt8)) (gs : List Nat)
    (hi : P.underlying ti = some (.interface ms)) (hrow : ∀ u, P.typeName? 3 u = some "*errors.errorString" → u = tp)
    (hp : P.underlying tp = some (.pointer te)) (he : P.underlying te = some (.struct #[f])) (hft : f.type = ts) (hfo : f.offset = 0) (hs : P.underlying ts = some .string) (hc : P.cellsOf te = 1) (hcs : P.cellsOf ts = 1)
    (hgs : (l.map fun x => P.globalNamed x.1) = gs.map some) (hty : (gs.all fun g => (P.globals[g]?).map (·.type) == some ti) = true)
    (h : laidMet P (l.map mkErr ++ rest) W) :
    ∃ a : Nat → Addr, Errs l.length tp (fun i => gs.getD i 0) (fun i => (l.map (·.2)).getD i []) a W := by
  obtain ⟨ps, hv, hnd, hrows⟩ := h
  have hlen : l.length = gs.length := by simpa using congrArg List.length hgs
  have hget : ∀ i, i < l.length → ∃ x g, l[i]? = some x ∧ gs[i]? = some g ∧ P.globalNamed x.1 = some g := fun i hi' => by
    have h1 : l[i]? = some l[i] := List.getElem?_eq_getElem hi'
    have h2 : gs[i]? = some (gs[i]'(by omega)) := List.getElem?_eq_getElem (by omega)
    refine ⟨_, _, h1, h2, ?_⟩
    have := congrArg (·[i]?) hgs
    simp only [List.getElem?_map, h1, h2, Option.map_some, Option.some.injEq] at this
    exact this
  obtain ⟨as, hl, hn, _, hel⟩ := sents_of_laid hi hrow hp he hft hfo hs hc hcs hrows l ps (fun x hx => by
    obtain ⟨i, hi', rfl⟩ := List.getElem_of_mem hx
    obtain ⟨x, g, hx1, hg1, hg2⟩ := hget i hi'
    rw [List.getElem?_eq_getElem hi'] at hx1
    obtain rfl := Option.some.inj hx1
    refine ⟨g, hg2, ?_⟩
    have := List.all_eq_true.1 hty g (List.mem_of_getElem? hg1)
    simpa using this) hv hnd (fun _ h => h)
  have key : ∀ i, i < l.length → ∃ x g, l[i]? = some x ∧ gs[i]? = some g ∧ as[i]? = some (as.getD i default) ∧ W.cell? ⟨g, 0, none⟩ = some (.iface tp (.pointer (some (as.getD i default)))) ∧
      (∃ s : ByteArray, W.cell? (as.getD i default) = some (.string s) ∧ s.data.toList = x.2 ∧ s.size ≤ maxLen) ∧ ∃ c t, W.heap[(as.getD i default).block]? = some (.cells c t (0, 0)) := fun i hi' => by
    obtain ⟨x, g, hx1, hg1, hg2⟩ := hget i hi'
    have ha : as[i]? = some (as.getD i default) := by
      rw [List.getD, List.getElem?_eq_getElem (by omega : i < as.length)]; rfl
    obtain ⟨g', hg', r⟩ := hel i x _ hx1 ha
    obtain rfl := Option.some.inj (hg2.symm.trans hg')
    exact ⟨x, g, hx1, hg1, ha, r⟩
  refine ⟨fun i => as.getD i default, fun i hi' => ?_, fun i hi' => ?_, fun i hi' => ?_, fun i j hi' hj' e => ?_⟩
  · obtain ⟨x, g, hx1, hg1, ha, r, _⟩ := key i hi'
    simpa [List.getD, hg1] using r
  · obtain ⟨x, g, hx1, hg1, ha, _, ⟨s, r1, r2, r3⟩, _⟩ := key i hi'
    exact ⟨s, r1, by simpa [List.getD, hx1] using r2, r3⟩
  · obtain ⟨x, g, hx1, hg1, ha, _, _, r⟩ := key i hi'
    exact r
  · obtain ⟨_, _, _, _, ha, _⟩ := key i hi'
    obtain ⟨_, _, _, _, hb, _⟩ := key j hj'

    rw [e] at ha
    exact (List.getElem?_inj (by omega : i < as.length) hn).1 (by rw [ha, hb])

theorem below_drewN {B : Nat} {a w : World} (h : Below B a w) (n : Nat) : Below B a (w.drewN n) := ⟨h.os, h.tape, h.output, h.size, h.block⟩
end Go.Proofs.YtplnojapnaaakaaGreatDoor
