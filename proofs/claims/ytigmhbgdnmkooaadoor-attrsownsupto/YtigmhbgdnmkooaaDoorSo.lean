/- slices.swapRangeCmpFunc at pairs. -/
import Derived.Test.YtigmhbgdnmkooaaDoorAl
import Derived.Test.YtigmhbgdnmkooaaDoorSx
import Derived.Shelf.SlSortCmp.KitK
import Derived.Sort.WalkB2
import Derived.Sort.WalkB12
import Derived.Deep.LoopGhost
namespace Go.Proofs.YtigmhbgdnmkooaaDoor
open Go Go.RowKit Go.Lib Go.Sort
set_option linter.unusedVariables false

def encA (q : A2) : List Value := [.string q.1, .int .i64 q.2.1, .int .i64 q.2.2.1, .string q.2.2.2]
theorem encA_len (q : A2) : (encA q).length = 4 := rfl
theorem setCells4 (w : World) (b o : Nat) (q : A2) : w.setCells b o (encA q) = (((w.setCell ⟨b, o, none⟩ (.string q.1)).setCell ⟨b, o + 1, none⟩ (.int .i64 q.2.1)).setCell ⟨b, o + 2, none⟩ (.int .i64 q.2.2.1)).setCell ⟨b, o + 3, none⟩ (.string q.2.2.2) := rfl
theorem setCell_drew (w : World) (a : Addr) (v : Value) : (w.setCell a v).drew = w.drew.setCell a v := by
  simp only [World.setCell, World.drew]

set_option maxHeartbeats 4000000 in
set_option maxRecDepth 1000000 in
theorem swapRange_any (blk cap a b m : Nat) (d0 d : Array A2) (w0 w : World) (f : Value) (R : RowK encA 4 w0 blk 0 d0) (hs : d0.size = d.size) (S : SWK encA 4 w0 blk 0 d w) (ha : a + m ≤ b) (hb : b + m ≤ d.size) (hsz : d.size < 4611686018427387904) :
    Calls Tryd.prog 86 #[.slice (some ⟨blk, 0, none⟩) d.size cap, .int .i64 a, .int .i64 b, .int .i64 m, f] w fun e w' => e = .returned (.tuple #[]) ∧ SWK encA 4 w0 blk 0 (swr d a b m) w' := by
  have S0 : Hid (SWK encA 4 w0 blk 0 d w) := S
  clear S
  go_enter Tryd.func86, Tryd.ntmps86
  go_wp2
  go_loopw [10] (fun i wr => ∃ j : Nat, j ≤ m ∧ i = .int .i64 j ∧ Hid (SWK encA 4 w0 blk 0 (swr d a b j) wr)) (fun i _ => m - (RowKit.intOf i).toNat)
  case atStart => exact ⟨0, Nat.zero_le _, rfl, S0⟩
  case round =>
    clear S0
    obtain ⟨j, hj, rfl, S1⟩ := hrel
    by_cases hlt : j < m
    · have hltI : (j : Int) < m := by omega
      have hz := swr_size d a b j
      obtain ⟨dk, hdk⟩ : ∃ dk, swr d a b j = dk := ⟨_, rfl⟩
      have hst : swr d a b (j + 1) = swp dk (a + j) (b + j) := by rw [swr, hdk]
      rw [hdk] at S1 hz
      clear hdk
      go_wp2_with fail
      have ea : ((a : Int) + (j : Int)).toNat = a + j := by omega
      have pa : (0 : Int) ≤ (a : Int) + (j : Int) := by omega
      have ba : (a : Int) + (j : Int) < (d.size : Int) := by omega
      have ra : IntKind.i64.wrap ((a : Int) + (j : Int)) = (a : Int) + (j : Int) := by rw [IntKind.wrap_i64]; omega
      have ec : ((b : Int) + (j : Int)).toNat = b + j := by omega
      have pc : (0 : Int) ≤ (b : Int) + (j : Int) := by omega
      have bc : (b : Int) + (j : Int) < (d.size : Int) := by omega
      have rc : IntKind.i64.wrap ((b : Int) + (j : Int)) = (b : Int) + (j : Int) := by rw [IntKind.wrap_i64]; omega
      have S2 : Hid (SWK encA 4 w0 blk 0 (swp dk (a + j) (b + j)) ((wr.drew.setCells blk (0 + (a + j) * 4) (encA dk[b + j]!)).setCells blk (0 + (b + j) * 4) (encA dk[a + j]!))) := S1.out.swapped R (a + j) (b + j) (by omega) (by omega)
      have hH : HoldsK encA 4 wr blk 0 dk := S1.out.holds R.hblk R.hH (by omega)
      have hx : ∀ c, c < 4 → wr.cell? ⟨blk, (a + j) * 4 + c, none⟩ = some ((encA dk[a + j]!)[c]!) ∧ wr.frozen? ⟨blk, (a + j) * 4 + c, none⟩ = false := fun c hc => by
        have := hH.cell (i := a + j) (by omega) (c := c) hc
        rwa [Nat.zero_add] at this
      have hy : ∀ c, c < 4 → wr.cell? ⟨blk, (b + j) * 4 + c, none⟩ = some ((encA dk[b + j]!)[c]!) ∧ wr.frozen? ⟨blk, (b + j) * 4 + c, none⟩ = false := fun c hc => by
        have := hH.cell (i := b + j) (by omega) (c := c) hc
        rwa [Nat.zero_add] at this
      obtain ⟨⟨x0, x1, x2, x3⟩, hX⟩ : ∃ q, dk[a + j]! = q := ⟨_, rfl⟩
      obtain ⟨⟨y0, y1, y2, y3⟩, hY⟩ : ∃ q, dk[b + j]! = q := ⟨_, rfl⟩
      rw [hX] at hx S2
      rw [hY] at hy S2
      have cx0 : wr.cell? ⟨blk, (a + j) * 4, none⟩ = some (.string x0) := (hx 0 (by omega)).1
      have fx0 : wr.frozen? ⟨blk, (a + j) * 4, none⟩ = false := (hx 0 (by omega)).2
      have cx1 : wr.cell? ⟨blk, (a + j) * 4 + 1, none⟩ = some (.int .i64 x1) := (hx 1 (by omega)).1
      have fx1 : wr.frozen? ⟨blk, (a + j) * 4 + 1, none⟩ = false := (hx 1 (by omega)).2
      have cx2 : wr.cell? ⟨blk, (a + j) * 4 + 2, none⟩ = some (.int .i64 x2) := (hx 2 (by omega)).1
      have fx2 : wr.frozen? ⟨blk, (a + j) * 4 + 2, none⟩ = false := (hx 2 (by omega)).2
      have cx3 : wr.cell? ⟨blk, (a + j) * 4 + 3, none⟩ = some (.string x3) := (hx 3 (by omega)).1
      have fx3 : wr.frozen? ⟨blk, (a + j) * 4 + 3, none⟩ = false := (hx 3 (by omega)).2
      have cy0 : wr.cell? ⟨blk, (b + j) * 4, none⟩ = some (.string y0) := (hy 0 (by omega)).1
      have fy0 : wr.frozen? ⟨blk, (b + j) * 4, none⟩ = false := (hy 0 (by omega)).2
      have cy1 : wr.cell? ⟨blk, (b + j) * 4 + 1, none⟩ = some (.int .i64 y1) := (hy 1 (by omega)).1
      have fy1 : wr.frozen? ⟨blk, (b + j) * 4 + 1, none⟩ = false := (hy 1 (by omega)).2
      have cy2 : wr.cell? ⟨blk, (b + j) * 4 + 2, none⟩ = some (.int .i64 y2) := (hy 2 (by omega)).1
      have fy2 : wr.frozen? ⟨blk, (b + j) * 4 + 2, none⟩ = false := (hy 2 (by omega)).2
      have cy3 : wr.cell? ⟨blk, (b + j) * 4 + 3, none⟩ = some (.string y3) := (hy 3 (by omega)).1
      have fy3 : wr.frozen? ⟨blk, (b + j) * 4 + 3, none⟩ = false := (hy 3 (by omega)).2
      have hd : a + j ≠ b + j := by omega
      have n00 : ¬ (a + j) * 4 = (b + j) * 4 := by omega
      have m00 : ¬ (b + j) * 4 = (a + j) * 4 := by omega
      have n01 : ¬ (a + j) * 4 = (b + j) * 4 + 1 := by omega
      have m01 : ¬ (b + j) * 4 + 1 = (a + j) * 4 := by omega
      have n02 : ¬ (a + j) * 4 = (b + j) * 4 + 2 := by omega
      have m02 : ¬ (b + j) * 4 + 2 = (a + j) * 4 := by omega
      have n03 : ¬ (a + j) * 4 = (b + j) * 4 + 3 := by omega
      have m03 : ¬ (b + j) * 4 + 3 = (a + j) * 4 := by omega
      have n10 : ¬ (a + j) * 4 + 1 = (b + j) * 4 := by omega
      have m10 : ¬ (b + j) * 4 = (a + j) * 4 + 1 := by omega
      have n11 : ¬ (a + j) * 4 + 1 = (b + j) * 4 + 1 := by omega
      have m11 : ¬ (b + j) * 4 + 1 = (a + j) * 4 + 1 := by omega
      have n12 : ¬ (a + j) * 4 + 1 = (b + j) * 4 + 2 := by omega
      have m12 : ¬ (b + j) * 4 + 2 = (a + j) * 4 + 1 := by omega
      have n13 : ¬ (a + j) * 4 + 1 = (b + j) * 4 + 3 := by omega
      have m13 : ¬ (b + j) * 4 + 3 = (a + j) * 4 + 1 := by omega
      have n20 : ¬ (a + j) * 4 + 2 = (b + j) * 4 := by omega
      have m20 : ¬ (b + j) * 4 = (a + j) * 4 + 2 := by omega
      have n21 : ¬ (a + j) * 4 + 2 = (b + j) * 4 + 1 := by omega
      have m21 : ¬ (b + j) * 4 + 1 = (a + j) * 4 + 2 := by omega
      have n22 : ¬ (a + j) * 4 + 2 = (b + j) * 4 + 2 := by omega
      have m22 : ¬ (b + j) * 4 + 2 = (a + j) * 4 + 2 := by omega
      have n23 : ¬ (a + j) * 4 + 2 = (b + j) * 4 + 3 := by omega
      have m23 : ¬ (b + j) * 4 + 3 = (a + j) * 4 + 2 := by omega
      have n30 : ¬ (a + j) * 4 + 3 = (b + j) * 4 := by omega
      have m30 : ¬ (b + j) * 4 = (a + j) * 4 + 3 := by omega
      have n31 : ¬ (a + j) * 4 + 3 = (b + j) * 4 + 1 := by omega
      have m31 : ¬ (b + j) * 4 + 1 = (a + j) * 4 + 3 := by omega
      have n32 : ¬ (a + j) * 4 + 3 = (b + j) * 4 + 2 := by omega
      have m32 : ¬ (b + j) * 4 + 2 = (a + j) * 4 + 3 := by omega
      have n33 : ¬ (a + j) * 4 + 3 = (b + j) * 4 + 3 := by omega
      have m33 : ¬ (b + j) * 4 + 3 = (a + j) * 4 + 3 := by omega
      clear S1 hz hx hy hX hY hH hd
      go_big_region
      have S3 : Hid (SWK encA 4 w0 blk 0 (swr d a b (j + 1)) (((((((((wr.setCell ⟨blk, (a + j) * 4, none⟩ (.string y0)).setCell ⟨blk, (a + j) * 4 + 1, none⟩ (.int .i64 y1)).setCell ⟨blk, (a + j) * 4 + 2, none⟩ (.int .i64 y2)).setCell ⟨blk, (a + j) * 4 + 3, none⟩ (.string y3)).setCell ⟨blk, (b + j) * 4, none⟩ (.string x0)).setCell ⟨blk, (b + j) * 4 + 1, none⟩ (.int .i64 x1)).setCell ⟨blk, (b + j) * 4 + 2, none⟩ (.int .i64 x2)).setCell ⟨blk, (b + j) * 4 + 3, none⟩ (.string x3)).drew)) := by
        rw [hst]
        have h := S2.out
        rw [Nat.zero_add, Nat.zero_add, setCells4, setCells4] at h
        simp only [setCell_drew]
        exact h
      generalize ((((((((wr.setCell ⟨blk, (a + j) * 4, none⟩ (.string y0)).setCell ⟨blk, (a + j) * 4 + 1, none⟩ (.int .i64 y1)).setCell ⟨blk, (a + j) * 4 + 2, none⟩ (.int .i64 y2)).setCell ⟨blk, (a + j) * 4 + 3, none⟩ (.string y3)).setCell ⟨blk, (b + j) * 4, none⟩ (.string x0)).setCell ⟨blk, (b + j) * 4 + 1, none⟩ (.int .i64 x1)).setCell ⟨blk, (b + j) * 4 + 2, none⟩ (.int .i64 x2)).setCell ⟨blk, (b + j) * 4 + 3, none⟩ (.string x3)).drew = w2 at S3 ⊢
      go_wp2
      go_roundw
      case rel => exact ⟨j + 1, by omega, by go_num, S3⟩
      case measure => simp [RowKit.intOf]; omega
    · have hltI : ¬ (j : Int) < m := by omega
      obtain rfl : j = m := by omega
      go_wp2
      go_end0
      exact ⟨rfl, S1.out⟩
end Go.Proofs.YtigmhbgdnmkooaaDoor
