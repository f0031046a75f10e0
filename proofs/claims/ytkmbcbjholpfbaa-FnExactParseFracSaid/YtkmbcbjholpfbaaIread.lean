/- The program's automaton over a text, and its reader of digits. -/
import Derived.Test.YtkmbcbjholpfbaaSread
import Derived.Test.YtkmbcbjholpfbaaShelf
import Derived.Lib.DecodeN
import Derived.Lib.OthersKept
import Derived.Lib.ItoaWalk
namespace Go.Proofs.Ytkmbcbjholpfbaa
open Go.RowKit
set_option linter.unusedVariables false
set_option maxHeartbeats 400000 in
theorem next_d3 (q r : Int) (w : World) (h1 : 48 ≤ r) (h2 : r ≤ 57) (hq : q = 3) :
    Calls Try.prog 53 #[.int .i64 q, .int .i32 r] w fun e w' => e = .returned (.int .i64 4) ∧ w' = w := by
  subst hq
  go_enter Try.func53, Try.ntmps53
  go_wp2
  go_ret
  exact ⟨rfl, rfl⟩
set_option maxHeartbeats 400000 in
theorem next_d4 (q r : Int) (w : World) (h1 : 48 ≤ r) (h2 : r ≤ 57) (hq : q = 4) :
    Calls Try.prog 53 #[.int .i64 q, .int .i32 r] w fun e w' => e = .returned (.int .i64 4) ∧ w' = w := by
  subst hq
  go_enter Try.func53, Try.ntmps53
  go_wp2
  go_ret
  exact ⟨rfl, rfl⟩
set_option maxHeartbeats 400000 in
theorem next_d (q r : Int) (w : World) (h1 : 48 ≤ r) (h2 : r ≤ 57) (hq : q ≠ 3 ∧ q ≠ 4) :
    Calls Try.prog 53 #[.int .i64 q, .int .i32 r] w fun e w' => e = .returned (.int .i64 2) ∧ w' = w := by
  have t1 : (q == 3) = false := by rw [beq_eq_false_iff_ne]; omega
  have t2 : (q == 4) = false := by rw [beq_eq_false_iff_ne]; omega
  go_enter Try.func53, Try.ntmps53
  go_wp2
  go_ret
  exact ⟨rfl, rfl⟩
set_option maxHeartbeats 400000 in
theorem next_m0 (q r : Int) (w : World) (hr : r = 45) (hq : q = 0) :
    Calls Try.prog 53 #[.int .i64 q, .int .i32 r] w fun e w' => e = .returned (.int .i64 1) ∧ w' = w := by
  subst hr hq
  go_enter Try.func53, Try.ntmps53
  go_wp2
  go_ret
  exact ⟨rfl, rfl⟩
set_option maxHeartbeats 400000 in
theorem next_m (q r : Int) (w : World) (hr : r = 45) (hq : q ≠ 0) :
    Calls Try.prog 53 #[.int .i64 q, .int .i32 r] w fun e w' => e = .returned (.int .i64 5) ∧ w' = w := by
  subst hr
  have t1 : (q == 0) = false := by rw [beq_eq_false_iff_ne]; omega
  go_enter Try.func53, Try.ntmps53
  go_wp2
  go_ret
  exact ⟨rfl, rfl⟩
set_option maxHeartbeats 400000 in
theorem next_s46 (q r : Int) (w : World) (hr : r = 46) (hq : q = 2) :
    Calls Try.prog 53 #[.int .i64 q, .int .i32 r] w fun e w' => e = .returned (.int .i64 3) ∧ w' = w := by
  subst hr hq
  go_enter Try.func53, Try.ntmps53
  go_wp2
  go_ret
  exact ⟨rfl, rfl⟩
set_option maxHeartbeats 400000 in
theorem next_t46 (q r : Int) (w : World) (hr : r = 46) (hq : q ≠ 2) :
    Calls Try.prog 53 #[.int .i64 q, .int .i32 r] w fun e w' => e = .returned (.int .i64 5) ∧ w' = w := by
  subst hr
  have t1 : (q == 2) = false := by rw [beq_eq_false_iff_ne]; omega
  go_enter Try.func53, Try.ntmps53
  go_wp2
  go_ret
  exact ⟨rfl, rfl⟩
set_option maxHeartbeats 400000 in
theorem next_s47 (q r : Int) (w : World) (hr : r = 47) (hq : q = 2) :
    Calls Try.prog 53 #[.int .i64 q, .int .i32 r] w fun e w' => e = .returned (.int .i64 3) ∧ w' = w := by
  subst hr hq
  go_enter Try.func53, Try.ntmps53
  go_wp2
  go_ret
  exact ⟨rfl, rfl⟩
set_option maxHeartbeats 400000 in
theorem next_t47 (q r : Int) (w : World) (hr : r = 47) (hq : q ≠ 2) :
    Calls Try.prog 53 #[.int .i64 q, .int .i32 r] w fun e w' => e = .returned (.int .i64 5) ∧ w' = w := by
  subst hr
  have t1 : (q == 2) = false := by rw [beq_eq_false_iff_ne]; omega
  go_enter Try.func53, Try.ntmps53
  go_wp2
  go_ret
  exact ⟨rfl, rfl⟩
set_option maxHeartbeats 400000 in
theorem next_lo (q r : Int) (w : World) (h1 : r < 48) (h2 : r ≠ 45 ∧ r ≠ 46 ∧ r ≠ 47) :
    Calls Try.prog 53 #[.int .i64 q, .int .i32 r] w fun e w' => e = .returned (.int .i64 5) ∧ w' = w := by
  have t1 : (r == 45) = false := by rw [beq_eq_false_iff_ne]; omega
  have t2 : (r == 46) = false := by rw [beq_eq_false_iff_ne]; omega
  have t3 : (r == 47) = false := by rw [beq_eq_false_iff_ne]; omega
  go_enter Try.func53, Try.ntmps53
  go_wp2
  go_ret
  exact ⟨rfl, rfl⟩
set_option maxHeartbeats 400000 in
theorem next_hi (q r : Int) (w : World) (h0 : 48 ≤ r) (h1 : 57 < r) :
    Calls Try.prog 53 #[.int .i64 q, .int .i32 r] w fun e w' => e = .returned (.int .i64 5) ∧ w' = w := by
  have t1 : (r == 45) = false := by rw [beq_eq_false_iff_ne]; omega
  have t2 : (r == 46) = false := by rw [beq_eq_false_iff_ne]; omega
  have t3 : (r == 47) = false := by rw [beq_eq_false_iff_ne]; omega
  go_enter Try.func53, Try.ntmps53
  go_wp2
  go_ret
  exact ⟨rfl, rfl⟩
theorem next_any (q r : Int) (w : World) :
    Calls Try.prog 53 #[.int .i64 q, .int .i32 r] w fun e w' => e = .returned (.int .i64 (Tx.delta q r)) ∧ w' = w := by
  unfold Tx.delta
  by_cases h1 : 48 ≤ r
  · by_cases h2 : r ≤ 57
    · rw [if_pos ⟨h1, h2⟩]
      by_cases h3 : q = 3
      · rw [if_pos (by omega)]; exact next_d3 q r w h1 h2 h3
      · by_cases h4 : q = 4
        · rw [if_pos (by omega)]; exact next_d4 q r w h1 h2 h4
        · rw [if_neg (by omega)]; exact next_d q r w h1 h2 ⟨h3, h4⟩
    · rw [if_neg (by omega), if_neg (by omega), if_neg (by omega)]; exact next_hi q r w h1 (by omega)
  · rw [if_neg (by omega)]
    by_cases h3 : r = 45
    · by_cases h4 : q = 0
      · rw [if_pos ⟨h3, h4⟩]; exact next_m0 q r w h3 h4
      · rw [if_neg (by omega), if_neg (by omega)]; exact next_m q r w h3 h4
    · rw [if_neg (by omega)]
      by_cases h5 : r = 46
      · by_cases h4 : q = 2
        · rw [if_pos (by omega)]; exact next_s46 q r w h5 h4
        · rw [if_neg (by omega)]; exact next_t46 q r w h5 h4
      · by_cases h6 : r = 47
        · by_cases h4 : q = 2
          · rw [if_pos (by omega)]; exact next_s47 q r w h6 h4
          · rw [if_neg (by omega)]; exact next_t47 q r w h6 h4
        · rw [if_neg (by omega)]; exact next_lo q r w (by omega) ⟨h3, h5, h6⟩
theorem decodeN_ge (n b0 b1 b2 b3 : Nat) (h : 128 ≤ b0) : 128 ≤ (Lib.decodeN n b0 b1 b2 b3).1 := by
  unfold Lib.decodeN
  repeat' split
  all_goals simp
  all_goals omega
theorem decode_high (s : ByteArray) (p : Nat) (h : p < s.size) (hb : 128 ≤ (s[p]'h).toNat) : 128 ≤ (Utf8.decode s p).1 := by
  rw [Lib.decode_at]
  refine decodeN_ge _ _ _ _ _ ?_
  have : s.get! p = s[p]'h := by
    show s.data[p]! = s.data[p]'_
    exact getElem!_pos s.data p h
  rw [this]; exact hb
theorem drop_cons (l : List UInt8) (p : Nat) (h : p < l.length) : l.drop p = l[p] :: l.drop (p + 1) := List.drop_eq_getElem_cons h
set_option maxHeartbeats 1000000 in
theorem stuck_any (s : ByteArray) (l : List UInt8) (hs : s.data.toList = l) (hm : s.size ≤ 4000) (w : World) :
    Calls Try.prog 46 #[.string s] w fun e w' => e = .returned (.int .i64 (Tx.stuck 0 0 l)) ∧ Below w.heap.size w w' := by
  have hsz := size_of hs
  have hk0 : (w.iter s 0).heap[w.heap.size]? = some (.stringIter s 0) := World.iter_heap w s 0
  have hb0 : Below w.heap.size w (w.iter s 0) := (Below.refl _ w).alloc (Nat.le_refl _) _
  have HS : Hid (s.data.toList = l) := hs
  have HZ : Hid (s.size = l.length) := hsz
  clear hs hsz
  go_enter Try.func46, Try.ntmps46
  go_wp2
  go_loopw [3] (fun q wr => ∃ (p : Nat) (st : Int), p ≤ s.size ∧ q = .int .i64 st ∧ 0 ≤ st ∧ st ≤ 4 ∧ Tx.stuck st p (l.drop p) = Tx.stuck 0 0 l ∧ wr.heap[w.heap.size]? = some (.stringIter s p) ∧ Below w.heap.size w wr) (fun _ wr => s.size - wr.iterPos w.heap.size)
  case atStart => exact ⟨0, 0, Nat.zero_le _, rfl, by omega, by omega, rfl, hk0, hb0⟩
  case round =>
    obtain ⟨p, st, hp, rfl, hq0, hq4, hst, hk, hB⟩ := hrel
    clear hk0 hb0
    have HT : Hid (Tx.stuck st p (l.drop p) = Tx.stuck 0 0 l) := hst
    clear hst
    have hmu : wr.iterPos w.heap.size = p := by simp [World.iterPos, hk]
    by_cases hlt : p < s.size
    · have hpl : p < l.length := by have := HZ.out; omega
      have hbyte : (s[p]'hlt) = l[p] := byte_at HS.out hpl hlt
      have hcons := Tx.stuck_cons st p l[p] (l.drop (p + 1))
      rw [← drop_cons l p hpl, HT.out] at hcons
      have HC : Hid (Tx.stuck 0 0 l = if Tx.delta st (l[p].toNat : Int) = 5 then (p : Int) else Tx.stuck (Tx.delta st (l[p].toNat : Int)) (p + 1) (l.drop (p + 1))) := hcons
      clear hcons HT
      by_cases h128 : (s[p]'hlt).toNat < 128
      · have hnext : ∀ ty, (Instr.next (.pointer (some ⟨w.heap.size, 0, none⟩)) true ty).run Try.prog wr = _ := fun ty => Lib.run_next_ascii_at wr w.heap.size s p ty hk hlt h128
        rw [hbyte] at hnext
        have hk1 := Lib.iterAt_heap wr w.heap.size s p (p + 1) hk
        have hB1 : Below w.heap.size w (wr.iterAt w.heap.size s (p + 1)) := Lib.below_iterAt hB (Nat.le_refl _) s (p + 1)
        generalize wr.iterAt w.heap.size s (p + 1) = W1 at hnext hk1 hB1
        obtain ⟨d1, d2⟩ := Tx.delta_rng st (l[p].toNat : Int)
        have hcall := fun W => next_any st (l[p].toNat : Int) W
        obtain ⟨q, hq⟩ : ∃ q, q = Tx.delta st (l[p].toNat : Int) := ⟨_, rfl⟩
        rw [← hq] at d1 d2 HC
        simp only [← hq] at hcall
        have HK : Hid (∀ W, Calls Try.prog 53 #[.int .i64 st, .int .i32 (l[p].toNat : Int)] W fun e w' => e = .returned (.int .i64 q) ∧ w' = W) := hcall
        clear hcall hq h128 hbyte
        by_cases h5 : q = 5
        · have t5 : (q == 5) = true := by rw [beq_iff_eq]; exact h5
          have HC2 := HC.out
          rw [if_pos h5] at HC2
          have HC3 : Hid (Tx.stuck 0 0 l = (p : Int)) := HC2
          clear HC HC2 h5
          go_wp2_with (go_at_call 53; refine (HK.out _).mono ?_; rintro e w' ⟨rfl, rfl⟩)
          go_ret
          exact ⟨ret_int HC3.out.symm, hB1⟩
        · have t5 : (q == 5) = false := by rw [beq_eq_false_iff_ne]; exact h5
          have HC2 := HC.out
          rw [if_neg h5] at HC2
          have HC3 : Hid (Tx.stuck 0 0 l = Tx.stuck q (p + 1) (l.drop (p + 1))) := HC2
          clear HC HC2
          go_wp2_with (go_at_call 53; refine (HK.out _).mono ?_; rintro e w' ⟨rfl, hw⟩; subst hw)
          go_roundw
          case rel => exact ⟨p + 1, q, by omega, rfl, by omega, by omega, HC3.out.symm, hk1, hB1⟩
          case measure =>
            have hmu2 : w'.iterPos w.heap.size = p + 1 := by simp [World.iterPos, hk1]
            rw [hmu, hmu2]
            omega
      · have hh := decode_high s p hlt (by omega)
        have hnext : ∀ ty, (Instr.next (.pointer (some ⟨w.heap.size, 0, none⟩)) true ty).run Try.prog wr = _ := fun ty => Lib.run_next_any_at wr w.heap.size s p ty hk hlt
        have hB1 : Below w.heap.size w (wr.iterAt w.heap.size s (p + (Utf8.decode s p).2)) := Lib.below_iterAt hB (Nat.le_refl _) s _
        generalize wr.iterAt w.heap.size s (p + (Utf8.decode s p).2) = W1 at hnext hB1
        generalize (Utf8.decode s p).1 = r at hnext hh
        have hd5 : Tx.delta st (r : Int) = 5 := Tx.delta_high st r (by omega)
        have hd6 : Tx.delta st (l[p].toNat : Int) = 5 := Tx.delta_high st _ (by rw [← hbyte]; omega)
        have hcall := fun W => next_any st (r : Int) W
        simp only [hd5] at hcall
        have HK : Hid (∀ W, Calls Try.prog 53 #[.int .i64 st, .int .i32 (r : Int)] W fun e w' => e = .returned (.int .i64 5) ∧ w' = W) := hcall
        have HC2 := HC.out
        rw [if_pos hd6] at HC2
        have HC3 : Hid (Tx.stuck 0 0 l = (p : Int)) := HC2
        clear hcall hd5 hd6 HC HC2 hbyte
        go_wp2_with (go_at_call 53; refine (HK.out _).mono ?_; rintro e w' ⟨rfl, rfl⟩)
        go_ret
        exact ⟨ret_int HC3.out.symm, hB1⟩
    · have hpe : p = s.size := by omega
      have hnext : ∀ ty, (Instr.next (.pointer (some ⟨w.heap.size, 0, none⟩)) true ty).run Try.prog wr = _ := fun ty => Lib.run_next_end_at wr w.heap.size s p ty hk hlt
      have hend : Tx.stuck 0 0 l = if st = 2 ∨ st = 4 then -1 else (p : Int) := by
        rw [← HT.out, List.drop_of_length_le (by have := HZ.out; omega)]
        rfl
      have HE : Hid (Tx.stuck 0 0 l = if st = 2 ∨ st = 4 then -1 else (p : Int)) := hend
      have HP : Hid (p = s.size) := hpe
      clear hend HT hpe
      by_cases h2 : st = 2
      · have t2 : (st == 2) = true := by rw [beq_iff_eq]; exact h2
        have H2 : Hid (st = 2) := h2
        clear h2
        go_wp2
        go_ret
        exact ⟨ret_int (by rw [HE.out, if_pos (Or.inl H2.out)]), hB⟩
      · have t2 : (st == 2) = false := by rw [beq_eq_false_iff_ne]; exact h2
        by_cases h4 : st = 4
        · have t4 : (st == 4) = true := by rw [beq_iff_eq]; exact h4
          have H4 : Hid (st = 4) := h4
          clear h4
          go_wp2
          go_ret
          exact ⟨ret_int (by rw [HE.out, if_pos (Or.inr H4.out)]), hB⟩
        · have t4 : (st == 4) = false := by rw [beq_eq_false_iff_ne]; exact h4
          go_wp2
          go_ret
          exact ⟨ret_int (by rw [HE.out, if_neg (by omega), HP.out]), hB⟩
set_option maxHeartbeats 1000000 in
theorem whole_any (ds : List UInt8) (hd : Tx.AllD ds) (hn2 : ∀ k, k < ds.length → Tx.num (ds.take k) ≤ 100000000000000000) (w : World) :
    Calls Try.prog 56 #[.string ⟨ds.toArray⟩] w fun e w' => e = .returned (.int .i64 (Tx.num ds)) ∧ Below w.heap.size w w' := by
  have hk0 : (w.iter ⟨ds.toArray⟩ 0).heap[w.heap.size]? = some (.stringIter ⟨ds.toArray⟩ 0) := World.iter_heap w _ 0
  have hb0 : Below w.heap.size w (w.iter ⟨ds.toArray⟩ 0) := (Below.refl _ w).alloc (Nat.le_refl _) _
  have HD : Hid (Tx.AllD ds) := hd
  have HN2 : Hid (∀ k, k < ds.length → Tx.num (ds.take k) ≤ 100000000000000000) := hn2
  clear hd hn2
  go_enter Try.func56, Try.ntmps56
  go_wp2
  go_loopw [3] (fun n wr => ∃ p : Nat, p ≤ ds.length ∧ n = .int .i64 (Tx.num (ds.take p)) ∧ wr.heap[w.heap.size]? = some (.stringIter ⟨ds.toArray⟩ p) ∧ Below w.heap.size w wr) (fun _ wr => ds.length - wr.iterPos w.heap.size)
  case atStart => exact ⟨0, Nat.zero_le _, rfl, hk0, hb0⟩
  case round =>
    obtain ⟨p, hp, rfl, hk, hB⟩ := hrel
    clear hk0 hb0
    have hmu : wr.iterPos w.heap.size = p := by simp [World.iterPos, hk]
    by_cases hlt : p < ds.length
    · have hdk := Tx.isD_t (HD.out ds[p] (List.getElem_mem hlt))
      have hnext : ∀ ty, (Instr.next (.pointer (some ⟨w.heap.size, 0, none⟩)) true ty).run Try.prog wr = _ := fun ty => Lib.run_next_ascii_at wr w.heap.size ⟨ds.toArray⟩ p ty hk hlt (show ds[p].toNat < 128 by omega)
      have hbyte : ((⟨ds.toArray⟩ : ByteArray)[p]'hlt) = ds[p] := rfl
      rw [hbyte] at hnext
      have hk1 := Lib.iterAt_heap wr w.heap.size ⟨ds.toArray⟩ p (p + 1) hk
      have hB1 : Below w.heap.size w (wr.iterAt w.heap.size ⟨ds.toArray⟩ (p + 1)) := Lib.below_iterAt hB (Nat.le_refl _) _ (p + 1)
      generalize wr.iterAt w.heap.size ⟨ds.toArray⟩ (p + 1) = W1 at hnext hk1 hB1
      have hbd := (Tx.num_bd (ds.take p) (Tx.allD_take HD.out p)).1
      have hb2 := HN2.out p hlt
      have HN : Hid (Tx.num (ds.take (p + 1)) = Tx.num (ds.take p) * 10 + ((ds[p].toNat : Int) - 48)) := Tx.num_take ds p hlt
      obtain ⟨m, hm⟩ : ∃ m, m = Tx.num (ds.take p) := ⟨_, rfl⟩
      rw [← hm] at hbd hb2 HN ⊢
      clear hm hbyte
      generalize ds[p].toNat = c at hnext hdk HN
      go_wp2
      go_roundw
      case rel => exact ⟨p + 1, by omega, by rw [HN.out], hk1, hB1⟩
      case measure =>
        have hmu2 : W1.iterPos w.heap.size = p + 1 := by simp [World.iterPos, hk1]
        rw [hmu, hmu2]
        omega
    · have hpe : p = ds.length := by omega
      have hnext : ∀ ty, (Instr.next (.pointer (some ⟨w.heap.size, 0, none⟩)) true ty).run Try.prog wr = _ := fun ty => Lib.run_next_end_at wr w.heap.size ⟨ds.toArray⟩ p ty hk hlt
      subst hpe
      go_wp2
      go_ret
      exact ⟨ret_int (by rw [List.take_of_length_le (Nat.le_refl _)]), hB⟩
end Go.Proofs.Ytkmbcbjholpfbaa
