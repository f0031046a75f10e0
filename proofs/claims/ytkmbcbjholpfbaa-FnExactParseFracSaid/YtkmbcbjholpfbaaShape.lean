/- What a text's shape says of its bytes and pieces. -/
import Derived.Test.YtkmbcbjholpfbaaSread
namespace Go.Proofs.Ytkmbcbjholpfbaa
open Go.RowKit
theorem len_pos {l : List UInt8} (h : l ≠ []) : 0 < l.length := List.length_pos_iff.2 h
theorem ne_byte (c k : UInt8) (n : Int) (hk : (k.toNat : Int) = n) (h : c ≠ k) : ((c.toNat : Int) == n) = false := by
  rw [beq_eq_false_iff_ne]
  intro e
  exact h (UInt8.toNat_inj.1 (by omega))
theorem at_mark {s : ByteArray} {pre ds rest : List UInt8} {c : UInt8} (hs : s.data.toList = pre ++ (ds ++ c :: rest)) (j : Nat) (hj : j = pre.length + ds.length) (h : j < s.size) : s[j] = c := by
  subst hj
  rw [byte_at hs (by simp)]
  rw [List.getElem_append_right (by omega), List.getElem_append_right (by omega)]
  simp
theorem at_first {s : ByteArray} {ds rest : List UInt8} (hs : s.data.toList = ds ++ rest) (hp : 0 < ds.length) (h : 0 < s.size) : s[0] = ds[0] := by
  rw [byte_at hs (by simp; omega)]
  exact List.getElem_append_left hp
theorem piece {s : ByteArray} {pre ds rest : List UInt8} (hs : s.data.toList = pre ++ (ds ++ rest)) (a b : Nat) (ha : a = pre.length) (hb : b = pre.length + ds.length) : s.extract a b = ⟨ds.toArray⟩ := by
  subst ha hb
  rw [ext_of hs, List.drop_left, Nat.add_sub_cancel_left, List.take_left]
theorem not_empty {s : ByteArray} (h : 0 < s.size) : s.toList.isEmpty = false := by
  rw [ByteArray.toList_eq, List.isEmpty_eq_false_iff]
  intro e
  rw [size_of e] at h
  simp at h
theorem digits_at (s : ByteArray) (pre ds r : List UInt8) (x : Int) (hx : x = (pre.length : Int)) (hs : s.data.toList = pre ++ (ds ++ r)) (hd : Tx.AllD ds) (hr : Tx.NoD r) (hm : s.size ≤ 1000000) (w : World) :
    Calls Try.prog 43 #[.string s, .int .i64 x] w fun e w' => e = .returned (.int .i64 (ds.length : Int)) ∧ w' = w := by
  subst hx
  exact digits_any s pre ds r hs hd hr hm w
end Go.Proofs.Ytkmbcbjholpfbaa
