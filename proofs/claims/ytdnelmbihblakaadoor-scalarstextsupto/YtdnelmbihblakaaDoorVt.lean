/- The contracts of package scalars, said of a text of given scalars. -/
import Derived.Test.YtdnelmbihblakaaDoorAt
import Derived.Test.YtdnelmbihblakaaDoorLst
namespace Go.Proofs.YtdnelmbihblakaaDoor
open Go Go.RowKit Go.Lib
set_option linter.unusedVariables false

/-- The text of these scalars. -/
def txt (rs : List Nat) : ByteArray := ⟨(encs rs).toArray⟩
def scals (rs : List Nat) : Prop := ∀ r ∈ rs, scal r

theorem txt_list (rs : List Nat) : (txt rs).data.toList = encs rs := by simp [txt]
theorem txt_size (rs : List Nat) : (txt rs).size = (encs rs).length := by rw [← size_toList, txt_list]
theorem txt_scs {rs : List Nat} (h : scals rs) : scs (txt rs).data.toList = rs := by
  rw [txt_list]
  have := scs_eq (t := []) h (Or.inl rfl)
  rwa [List.append_nil] at this
theorem txt_brk {rs : List Nat} (h : scals rs) : brk (txt rs).data.toList = (txt rs).size := by
  rw [brk, txt_scs h, txt_size]
theorem txt_of {s : ByteArray} (h : brk s.data.toList = s.size) : s = txt (scs s.data.toList) ∧ scals (scs s.data.toList) := by
  obtain ⟨h1, h2, _⟩ := valid_text s h
  refine ⟨?_, h1⟩
  apply ByteArray.ext
  apply Array.ext'
  rw [txt_list]; exact h2
theorem txt_append (a b : List Nat) : txt a ++ txt b = txt (a ++ b) := by
  apply ByteArray.ext
  apply Array.ext'
  rw [ByteArray.data_append, Array.toList_append, txt_list, txt_list, txt_list, encs_append]
theorem txt_nil : txt [] = ⟨#[]⟩ := rfl
theorem scals_take {rs : List Nat} (h : scals rs) (n : Nat) : scals (rs.take n) := fun r hr => h r (List.mem_of_mem_take hr)
theorem scals_drop {rs : List Nat} (h : scals rs) (n : Nat) : scals (rs.drop n) := fun r hr => h r (List.mem_of_mem_drop hr)
theorem txt_head (rs : List Nat) (n : Nat) : (txt rs).extract 0 (pos rs n) = txt (rs.take n) := by
  apply ByteArray.ext
  apply Array.ext'
  rw [extract_data, txt_list, txt_list, List.drop_zero, Nat.sub_zero, take_pos]
theorem txt_tail (rs : List Nat) (n : Nat) : (txt rs).extract (pos rs n) (txt rs).size = txt (rs.drop n) := by
  apply ByteArray.ext
  apply Array.ext'
  rw [extract_data, txt_list, txt_list, txt_size, List.take_of_length_le (by rw [List.length_drop]; exact Nat.le_refl _), drop_pos]
theorem txt_count {rs : List Nat} (h : scals rs) : rs.length ≤ (txt rs).size := by
  have := (valid_text (txt rs) (txt_brk h)).2.2
  rwa [txt_scs h] at this

theorem from_below {f : FuncId} {args : Array Value} {X : Ending → World → Prop} {w W : World} (hb : Below w.heap.size w W) (c : Calls Tryd.prog f args W fun e w' => X e w' ∧ Below W.heap.size W w') :
    Calls Tryd.prog f args W fun e w' => X e w' ∧ Below w.heap.size w w' :=
  c.mono fun e w' ⟨h, k⟩ => ⟨h, hb.trans (k.mono hb.size)⟩

theorem check_v {a : Nat → Addr} {rs : List Nat} (h : scals rs) (hs : (txt rs).size ≤ 281474976710656) {w W : World} (hw : Std a w) (hW : Below w.heap.size w W) : Calls Tryd.prog 10 #[.string (txt rs)] W fun e w' => e = .returned (.tuple #[.int .i64 (txt rs).size, .nilIface]) ∧ Below w.heap.size w w' :=
  from_below hW (check_ok (txt rs) W (hw.below hW) hs (txt_brk h))
theorem len_v {a : Nat → Addr} {rs : List Nat} (h : scals rs) (hs : (txt rs).size ≤ 281474976710656) {w W : World} (hw : Std a w) (hW : Below w.heap.size w W) : Calls Tryd.prog 15 #[.string (txt rs)] W fun e w' => e = .returned (.tuple #[.int .i64 rs.length, .nilIface]) ∧ Below w.heap.size w w' := by
  have := len_ok (txt rs) W (hw.below hW) hs (txt_brk h)
  rw [txt_scs h] at this
  exact from_below hW this
theorem cut_v {a : Nat → Addr} {rs : List Nat} (h : scals rs) (hs : (txt rs).size ≤ 281474976710656) {w W : World} (hw : Std a w) (hW : Below w.heap.size w W) (n : Nat) (hn : n ≤ rs.length) : Calls Tryd.prog 18 #[.string (txt rs), .int .i64 n] W fun e w' => e = .returned (.tuple #[.string (txt (rs.take n)), .string (txt (rs.drop n)), .nilIface]) ∧ Below w.heap.size w w' := by
  have := cut_ok (txt rs) n W (hw.below hW) hs (txt_brk h) (by rw [txt_scs h]; exact hn)
  rw [txt_scs h, txt_head, txt_tail] at this
  exact from_below hW this
theorem at_v {a : Nat → Addr} {rs : List Nat} (h : scals rs) (hs : (txt rs).size ≤ 281474976710656) {w W : World} (hw : Std a w) (hW : Below w.heap.size w W) (n : Nat) (hn : n < rs.length) : Calls Tryd.prog 19 #[.string (txt rs), .int .i64 n] W fun e w' => e = .returned (.tuple #[.int .i32 (rs[n] : Nat), .nilIface]) ∧ Below w.heap.size w w' := by
  have := at_ok (txt rs) n W (hw.below hW) hs (txt_brk h) (by rw [txt_scs h]; exact hn)
  have e : (scs (txt rs).data.toList)[n]'(by rw [txt_scs h]; exact hn) = rs[n] := by
    congr 1; exact txt_scs h
  rw [e] at this
  exact from_below hW this
theorem cut_out {a : Nat → Addr} {rs : List Nat} (h : scals rs) (hs : (txt rs).size ≤ 281474976710656) {w W : World} (hw : Std a w) (hW : Below w.heap.size w W) (n : Int) (hn : n < 0 ∨ n > rs.length) : Calls Tryd.prog 18 #[.string (txt rs), .int .i64 n] W fun e w' => e = .returned (.tuple #[.string ⟨#[]⟩, .string ⟨#[]⟩, errV a 11]) ∧ Below w.heap.size w w' :=
  from_below hW (cut_range (txt rs) n W (hw.below hW) hs (txt_brk h) (by rw [txt_scs h]; exact hn))
theorem at_out {a : Nat → Addr} {rs : List Nat} (h : scals rs) (hs : (txt rs).size ≤ 281474976710656) {w W : World} (hw : Std a w) (hW : Below w.heap.size w W) (n : Int) (hn : n < 0 ∨ n ≥ rs.length) : Calls Tryd.prog 19 #[.string (txt rs), .int .i64 n] W fun e w' => e = .returned (.tuple #[.int .i32 0, errV a 11]) ∧ Below w.heap.size w w' :=
  from_below hW (at_range (txt rs) n W (hw.below hW) hs (txt_brk h) (by rw [txt_scs h]; exact hn))
end Go.Proofs.YtdnelmbihblakaaDoor
