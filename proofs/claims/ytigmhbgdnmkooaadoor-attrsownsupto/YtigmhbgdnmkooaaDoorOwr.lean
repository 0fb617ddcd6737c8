/- AttrsOwns' loop over attrs.Each, whole. -/
import Derived.Test.YtigmhbgdnmkooaaDoorOwb
import Derived.RangeFuncLeaves
namespace Go.Proofs.YtigmhbgdnmkooaaDoor
open Go Go.RowKit Go.Lib Go.Shelf
set_option linter.unusedVariables false
attribute [local go_sem] Oper.semAt_some

/-- The first loop over a function within a code. -/
def rfCodeO : Code → Option Code
  | .rangeFunc g ps a b => some (.rangeFunc g ps a b)
  | .seq a b => (rfCodeO a).orElse fun _ => rfCodeO b
  | .block _ c => rfCodeO c
  | .loop c => rfCodeO c
  | _ => none
set_option maxHeartbeats 4000000 in
set_option maxRecDepth 100000 in
theorem owns_range (rc : Code) (hcode : (Tryd.f5.body).bind rfCodeO = some rc) (T : List A2) (n : Nat) (hn : T.length = n) (hnl : n ≤ 1048576) (p : Option Addr) (cap X Y B K : Nat) (w0 Wk : World)
    (hc : ∀ j q, T[j]? = some q → ∃ b off, p = some ⟨b, off, none⟩ ∧ PairAt w0 b (off + j * 4) q)
    (hbl : w0.cell? ⟨X, 0, none⟩ = some (.slice p n cap)) (hbr : w0.cell? ⟨X + 1, 0, none⟩ = some (.bool false)) (hfr : w0.frozen? ⟨X + 1, 0, none⟩ = false) (hY : TellAt w0 Y B T)
    (hK : w0.heap.size = K) (hbk : Below w0.heap.size w0 Wk) (hck : Wk.cell? ⟨w0.heap.size, 0, none⟩ = some (.int .i64 0)) (hfk : Wk.frozen? ⟨w0.heap.size, 0, none⟩ = false) (Q : Exit → Act → World → Prop)
    {u0 u1 u2 u4 u5 u7 u8 u9 u10 u11 u12 u13 u14 u15 u16 u17 u18 u19 u20 u21 u22 u23 u24 u25 u26 u28 u29 u30 u31 u32 u33 u34 u35 u36 u37 u38 u39 u40 u41 u42 u43 u44 u45 u46 u47 u48 u49 u50 u51 u52 u53 u54 u55 u56 u57 u58 u59 u60 u61 u62 u63 u64 u65 u66 u67 u68 u69 u70 u71 u72 u73 u74 u75 u76 u77 u78 u79 u80 u81 u82 u83 u84 u85 u86 u87 u88 u89 u90 u91 u92 u93 u94 u95 u96 u97 u98 u99 u100 u101 u102 u103 u104 u105 u106 u107 u108 u109 u110 u111 u112 u113 u114 u115 u116 u117 u118 u119 u120 u121 u122 u123 u124 u125 u126 u127 u128 u129 u130 u131 u132 u133 u134 u135 u136 u137 u138 u139 u140 u141 u142 u143 u144 u145 u146 u147 u148 u149 u150 u151 u152 u153 u154 u155 u156 u157 u158 u159 u160 u161 u162 u163 u164 u165 u166 u167 u168 u169 u170 u171 u173 u174 u175 u176 u177 u178 u179 u180 u181 u182 u183 u184 u185 u186 u187 u188 u189 u190 u191 u192 u193 : Value}
    (hQ : ∀ (D : Nat) (W' : World), w0.heap.size ≤ D → W'.heap[D]? = some (.deferred (some [])) → Below w0.heap.size w0 W' → W'.cell? ⟨K, 0, none⟩ = some (.int .i64 n) → Q .normal { tmps := #[u0, u1, u2, .pointer (some ⟨X, 0, none⟩), u4, u5, .pointer (some ⟨X + 1, 0, none⟩), u7, u8, u9, u10, u11, u12, u13, u14, u15, u16, u17, u18, u19, u20, u21, u22, u23, u24, u25, u26, .pointer (some ⟨K, 0, none⟩), u28, u29, u30, u31, u32, u33, u34, u35, u36, u37, u38, u39, u40, u41, u42, u43, u44, u45, u46, u47, u48, u49, u50, u51, u52, u53, u54, u55, u56, u57, u58, u59, u60, u61, u62, u63, u64, u65, u66, u67, u68, u69, u70, u71, u72, u73, u74, u75, u76, u77, u78, u79, u80, u81, u82, u83, u84, u85, u86, u87, u88, u89, u90, u91, u92, u93, u94, u95, u96, u97, u98, u99, u100, u101, u102, u103, u104, u105, u106, u107, u108, u109, u110, u111, u112, u113, u114, u115, u116, u117, u118, u119, u120, u121, u122, u123, u124, u125, u126, u127, u128, u129, u130, u131, u132, u133, u134, u135, u136, u137, u138, u139, u140, u141, u142, u143, u144, u145, u146, u147, u148, u149, u150, u151, u152, u153, u154, u155, u156, u157, u158, u159, u160, u161, u162, u163, u164, u165, u166, u167, u168, u169, u170, u171, .func (.func 48) #[] #[.pointer (some ⟨Y, 0, none⟩)], u173, u174, u175, u176, u177, u178, u179, u180, u181, u182, u183, u184, u185, u186, u187, u188, u189, u190, u191, u192, u193], defers := [{ target := .collected D, args := #[] }] } W') :
    rc.wpIn Fence.wide 5 Tryd.prog Q { tmps := #[u0, u1, u2, .pointer (some ⟨X, 0, none⟩), u4, u5, .pointer (some ⟨X + 1, 0, none⟩), u7, u8, u9, u10, u11, u12, u13, u14, u15, u16, u17, u18, u19, u20, u21, u22, u23, u24, u25, u26, .pointer (some ⟨K, 0, none⟩), u28, u29, u30, u31, u32, u33, u34, u35, u36, u37, u38, u39, u40, u41, u42, u43, u44, u45, u46, u47, u48, u49, u50, u51, u52, u53, u54, u55, u56, u57, u58, u59, u60, u61, u62, u63, u64, u65, u66, u67, u68, u69, u70, u71, u72, u73, u74, u75, u76, u77, u78, u79, u80, u81, u82, u83, u84, u85, u86, u87, u88, u89, u90, u91, u92, u93, u94, u95, u96, u97, u98, u99, u100, u101, u102, u103, u104, u105, u106, u107, u108, u109, u110, u111, u112, u113, u114, u115, u116, u117, u118, u119, u120, u121, u122, u123, u124, u125, u126, u127, u128, u129, u130, u131, u132, u133, u134, u135, u136, u137, u138, u139, u140, u141, u142, u143, u144, u145, u146, u147, u148, u149, u150, u151, u152, u153, u154, u155, u156, u157, u158, u159, u160, u161, u162, u163, u164, u165, u166, u167, u168, u169, u170, u171, .func (.func 48) #[] #[.pointer (some ⟨Y, 0, none⟩)], u173, u174, u175, u176, u177, u178, u179, u180, u181, u182, u183, u184, u185, u186, u187, u188, u189, u190, u191, u192, u193], defers := [] } Wk := by
  delta Tryd.f5 at hcode
  simp only [rfCodeO, Option.bind_some, Option.some.injEq, Option.orElse] at hcode
  subst hcode
  subst hK
  have HZ : Hid (w0.heap.size ≤ Wk.heap.size) := hbk.size
  have hTl : T.length ≤ 1048576 := by omega
  refine wpIn_rangeFunc_ownF rfl (by decide) (gf := 48) (lb := #[.pointer (some ⟨Y, 0, none⟩)]) rfl trivial (enters_of Tryd.func48 (by kernel_rfl) rfl)
    (eachA_stops T w0 Y B hY hTl _ (by decide) Wk hbk) belowK_t (belowK_b HZ.out) (Below.refl _ _) (fun _ => rfl)
    (EIO T w0) (EXO T) (EIO_own T w0 _ HZ.out) (fun c => fun s A' C row hs hg hr => hs) ⟨⟨⟨rfl, Nat.zero_le _⟩, hck, hfk⟩, hbk⟩ ?a1 ?assign ?body ?done ?stop
  case assign =>
    intro l x W K hK
    gi_wp2
    exact hK
  case body =>
    intro l pre x W hEI hlen
    exact owns_body _ rfl T n hn hnl p cap X w0 hc hbl hbr hfr _ rfl l pre x W hEI hlen
  case stop =>
    rintro D c pre W hD hSp hX hK
    exact (hX.2 (hSp.map _)).elim
  case done =>
    rintro D xs W hD hxs hI hK
    obtain ⟨⟨_, hci, hfi⟩, hbW⟩ := hI
    have hxs : xs = T := hxs
    rw [hxs, hn] at hci
    exact hQ D W (Nat.le_trans HZ.out hD) hK hbW hci
end Go.Proofs.YtigmhbgdnmkooaaDoor
