/- The body of AttrsOwns' loop over attrs.Each, walked once. -/
import Derived.Test.YtigmhbgdnmkooaaDoorEa
import Derived.Test.YtigmhbgdnmkooaaDoorSm
namespace Go.Proofs.YtigmhbgdnmkooaaDoor
open Go Go.RowKit Go.Lib Go.Shelf
set_option linter.unusedVariables false
attribute [local go_sem] Oper.semAt_some

/-- The first loop over a function within a code, its body. -/
def rfBodyO : Code → Option Code
  | .rangeFunc _ _ _ b => some b
  | .seq a b => (rfBodyO a).orElse fun _ => rfBodyO b
  | .block _ c => rfBodyO c
  | .loop c => rfBodyO c
  | _ => none
/-- Between two rounds: k boxed at the world's end. -/
def EIO (T : List A2) (w0 : World) (pre : List A2) (W : World) : Prop :=
  ((pre.map (·.1) = (T.map (·.1)).take pre.length ∧ pre.length ≤ T.length) ∧ W.cell? ⟨w0.heap.size, 0, none⟩ = some (.int .i64 (pre.length : Nat)) ∧ W.frozen? ⟨w0.heap.size, 0, none⟩ = false) ∧ Below w0.heap.size w0 W
theorem EIO_own (T : List A2) (w0 : World) (B : Nat) (hB : w0.heap.size ≤ B) : OwnFrom B (EIO T w0) :=
  OwnFrom.and (Own.from (fun s A C row hs hg hr => ⟨hs.1, cell_kept hs.2.1 hg hr, (frozen_kept hs.2.1 hg hr).trans hs.2.2⟩) _) (ownFrom_below (Nat.le_refl _) hB)
/-- How a round is left. -/
def EXO (T : List A2) (c : Code) (pre : List A2) (W : World) : Prop := c = .ret ∧ ¬ pre.map (·.1) <+: T.map (·.1)
theorem EIO_step {T : List A2} {w0 W w' : World} {k : Nat} {vi : Int} {pre : List A2} {x : A2} (hw : Below W.heap.size W w') (h : EIO T w0 pre W)
    (hsn : pre.map (·.1) ++ [x.1] = (T.map (·.1)).take (k + 1)) (hlen : k + 1 ≤ T.length) (hk : pre.length = k) (ei : vi = (k : Int) + 1) :
    KeepsOthers W (w'.setCell ⟨w0.heap.size, 0, none⟩ (.int .i64 vi)) ∧
    Below w0.heap.size W (w'.setCell ⟨w0.heap.size, 0, none⟩ (.int .i64 vi)) ∧
    EIO T w0 (pre ++ [x]) (w'.setCell ⟨w0.heap.size, 0, none⟩ (.int .i64 vi)) := by
  obtain ⟨⟨⟨hpre, hpl⟩, hci, hfi⟩, hB⟩ := h
  have e1 : vi = ((k + 1 : Nat) : Int) := by rw [ei]; rfl
  rw [e1]
  have hci' := (hw.cell (lt_of_cell hci)).trans hci
  have hfi' := (hw.frozen (lt_of_cell hci)).trans hfi
  have hB0 : Below w0.heap.size W w' := hw.mono hB.size
  have hB2 : Below w0.heap.size W (w'.setCell ⟨w0.heap.size, 0, none⟩ (.int .i64 (k + 1 : Nat))) := hB0.setCell (p := ⟨w0.heap.size, 0, none⟩) (Nat.le_refl _) _
  have hl : (pre ++ [x]).length = k + 1 := by rw [List.length_append, hk, List.length_singleton]
  refine ⟨(others_of_below hw).trans (KeepsOthers.setCell _ _ _), hB2, ⟨⟨?_, by rw [hl]; exact hlen⟩, ?_, ?_⟩, hB.trans hB2⟩
  · rw [hl, List.map_append]; exact hsn
  · rw [hl]
    exact World.cell?_setCell_same' _ _ _ (by rw [hci']; rfl)
  · rw [World.frozen?_setCell]; exact hfi'

set_option maxHeartbeats 4000000 in
set_option maxRecDepth 100000 in
theorem owns_body (eachBody : Code) (hcode : (Tryd.f5.body).bind rfBodyO = some eachBody) (T : List A2) (n : Nat) (hn : T.length = n) (hnl : n ≤ 1048576) (p : Option Addr) (cap X : Nat) (w0 : World)
    (hc : ∀ j q, T[j]? = some q → ∃ b off, p = some ⟨b, off, none⟩ ∧ PairAt w0 b (off + j * 4) q)
    (hbl : w0.cell? ⟨X, 0, none⟩ = some (.slice p n cap)) (hbr : w0.cell? ⟨X + 1, 0, none⟩ = some (.bool false)) (hfr : w0.frozen? ⟨X + 1, 0, none⟩ = false)
    (A : Nat) (hA : w0.heap.size = A) (l : Nat) (pre : List A2) (x : A2) (W : World) (hEI : EIO T w0 pre W) (hlen : pre.length < T.length)
    {u0 u1 u2 u4 u5 u7 u8 u9 u10 u11 u12 u13 u14 u15 u16 u17 u18 u19 u20 u21 u22 u23 u24 u25 u26 u29 u30 u31 u32 u33 u34 u35 u36 u37 u38 u39 u40 u41 u42 u43 u44 u45 u46 u47 u48 u49 u50 u51 u52 u53 u54 u55 u56 u57 u58 u59 u60 u61 u62 u63 u64 u65 u66 u67 u68 u69 u70 u71 u72 u73 u74 u75 u76 u77 u78 u79 u80 u81 u82 u83 u84 u85 u86 u87 u88 u89 u90 u91 u92 u93 u94 u95 u96 u97 u98 u99 u100 u101 u102 u103 u104 u105 u106 u107 u108 u109 u110 u111 u112 u113 u114 u115 u116 u117 u118 u119 u120 u121 u122 u123 u124 u125 u126 u127 u128 u129 u130 u131 u132 u133 u134 u135 u136 u137 u138 u139 u140 u141 u142 u143 u144 u145 u146 u147 u148 u149 u150 u151 u152 u153 u154 u155 u156 u157 u158 u159 u160 u161 u162 u163 u164 u165 u166 u167 u168 u169 u170 u171 u172 u173 u174 u175 u176 u177 u178 u179 u180 u181 u182 u183 u184 u185 u186 u187 u188 u189 u190 u191 u192 u193 : Value} :
    eachBody.wpIn (Fence.wide.inRound l) 3 Tryd.prog (ownPostK (Below w0.heap.size) (EIO T w0) (EXO T) (pre ++ [x]) W)
      { tmps := #[u0, u1, u2, .pointer (some ⟨X, 0, none⟩), u4, u5, .pointer (some ⟨X + 1, 0, none⟩), u7, u8, u9, u10, u11, u12, u13, u14, u15, u16, u17, u18, u19, u20, u21, u22, u23, u24, u25, u26, .pointer (some ⟨A, 0, none⟩), .string x.1, u29, u30, u31, u32, u33, u34, u35, u36, u37, u38, u39, u40, u41, u42, u43, u44, u45, u46, u47, u48, u49, u50, u51, u52, u53, u54, u55, u56, u57, u58, u59, u60, u61, u62, u63, u64, u65, u66, u67, u68, u69, u70, u71, u72, u73, u74, u75, u76, u77, u78, u79, u80, u81, u82, u83, u84, u85, u86, u87, u88, u89, u90, u91, u92, u93, u94, u95, u96, u97, u98, u99, u100, u101, u102, u103, u104, u105, u106, u107, u108, u109, u110, u111, u112, u113, u114, u115, u116, u117, u118, u119, u120, u121, u122, u123, u124, u125, u126, u127, u128, u129, u130, u131, u132, u133, u134, u135, u136, u137, u138, u139, u140, u141, u142, u143, u144, u145, u146, u147, u148, u149, u150, u151, u152, u153, u154, u155, u156, u157, u158, u159, u160, u161, u162, u163, u164, u165, u166, u167, u168, u169, u170, u171, u172, u173, u174, u175, u176, u177, u178, u179, u180, u181, u182, u183, u184, u185, u186, u187, u188, u189, u190, u191, u192, u193], defers := [] } W := by
  subst hA
  have HEI : Hid (EIO T w0 pre W) := hEI
  obtain ⟨⟨⟨hpre, hpl⟩, hci, hfi⟩, hB⟩ := hEI
  obtain ⟨k, hk⟩ : ∃ k, pre.length = k := ⟨_, rfl⟩
  rw [hk] at hpre hpl hci hlen
  have hlk : k < n := by omega
  have hlkI : ¬ ((n : Int) ≤ (k : Int)) := by omega
  have hlkB : (decide ((k : Int) ≥ n)) = false := decide_eq_false (by omega)
  obtain ⟨q, hq⟩ : ∃ q, T[k]? = some q := ⟨_, List.getElem?_eq_getElem hlen⟩
  obtain ⟨b, off, rfl, hp⟩ := hc k q hq
  obtain ⟨c0, -, -, -⟩ := hp.below hB
  have hlb : W.cell? ⟨X, 0, none⟩ = some (.slice (some ⟨b, off, none⟩) n cap) := by rw [hB.cell (lt_of_cell hbl)]; exact hbl
  have hrb : W.cell? ⟨X + 1, 0, none⟩ = some (.bool false) := by rw [hB.cell (lt_of_cell hbr)]; exact hbr
  have hrf : W.frozen? ⟨X + 1, 0, none⟩ = false := by rw [hB.frozen (lt_of_cell hbr)]; exact hfr
  have hq' : (T.map (·.1))[k]? = some q.1 := by rw [List.getElem?_map, hq]; rfl
  have hsn : (T.map (·.1)).take (k + 1) = pre.map (·.1) ++ [q.1] := by rw [List.take_add_one, hq', ← hpre]; rfl
  have HX : Hid (∀ y : A2, y.1 ≠ q.1 → ¬ (pre ++ [y]).map (·.1) <+: T.map (·.1)) := fun y hy h => by
    have h1 := List.prefix_iff_eq_take.1 h
    rw [List.length_map, List.length_append, hk, List.length_singleton, hsn, List.map_append] at h1
    have h2 := List.append_cancel_left h1
    exact hy (by simpa using h2)
  have HI : Hid ((T.map (·.1)).take (k + 1) = pre.map (·.1) ++ [q.1] ∧ k + 1 ≤ T.length ∧ pre.length = k) := ⟨hsn, hlen, hk⟩
  obtain ⟨xk, xr⟩ := x
  obtain ⟨qk, qr⟩ := q
  simp only at c0 HX HI
  clear hsn hq' hq hpre hpl hk hlen hc hp hbl hbr hfr hn hB
  delta Tryd.f5 at hcode
  simp only [rfBodyO, Option.bind_some, Option.some.injEq, Option.orElse] at hcode
  subst hcode
  have hkk : (k : Int) + 1 ≤ 1048576 := by omega
  by_cases hkey : xk = qk
  · subst hkey
    have hkB := beq_key (x := xk) (y := xk) true (decide_eq_true rfl)
    gi_wp2
    obtain ⟨q1, q2, q3⟩ := HI.out
    exact EIO_step (Below.refl _ _) HEI.out q1.symm q2 q3 rfl
  · have hkB := beq_key (x := xk) (y := qk) false (decide_eq_false hkey)
    gi_wp2
    exact ⟨KeepsOthers.setCell _ _ _, rfl, HX.out _ hkey⟩
end Go.Proofs.YtigmhbgdnmkooaaDoor
