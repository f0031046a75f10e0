/- What the program makes of a text's parts: too many digits, the upper and the lower number. -/
import Derived.Test.YtkmbcbjholpfbaaIread
import Derived.Lib.Repeat
namespace Go.Proofs.Ytkmbcbjholpfbaa
open Go.RowKit
set_option linter.unusedVariables false
set_option maxHeartbeats 400000 in
theorem many_dot (m : Bool) (ds es : List UInt8) (a c : Int) (w : World) (hl : ds.length + es.length ≤ 4000) (hc : c = 46) :
    Calls Try.prog 48 #[.agg #[.bool m, .string ⟨ds.toArray⟩, .int .u8 c, .int .i64 a, .string ⟨es.toArray⟩]] w fun e w' => e = .returned (.bool (decide (18 < ds.length + es.length))) ∧ Below w.heap.size w w' := by
  have tc : (c == 46) = true := by rw [beq_iff_eq]; exact hc
  clear hc
  go_enter Try.func48, Try.ntmps48
  go_wp2
  go_quiet (fail)
  go_wp2
  go_ret
  exact ⟨ret_bool (by simp; omega), below_drewN ((Below.refl _ _).alloc (Nat.le_refl _) _) _⟩
set_option maxHeartbeats 400000 in
theorem many_no (m : Bool) (ds es : List UInt8) (a c : Int) (w : World) (hl : ds.length + es.length ≤ 4000) (hc : c ≠ 46) :
    Calls Try.prog 48 #[.agg #[.bool m, .string ⟨ds.toArray⟩, .int .u8 c, .int .i64 a, .string ⟨es.toArray⟩]] w fun e w' => e = .returned (.bool (decide (18 < ds.length ∨ 18 < es.length))) ∧ Below w.heap.size w w' := by
  have tc : (c == 46) = false := by rw [beq_eq_false_iff_ne]; exact hc
  by_cases h1 : (18 : Int) < (ds.length : Int)
  · go_enter Try.func48, Try.ntmps48
    go_wp2
    go_quiet (fail)
    go_wp2
    go_ret
    exact ⟨ret_bool (by simp; omega), below_drewN ((Below.refl _ _).alloc (Nat.le_refl _) _) _⟩
  · go_enter Try.func48, Try.ntmps48
    go_wp2
    go_quiet (fail)
    go_wp2
    go_ret
    exact ⟨ret_bool (by rw [← Bool.decide_or, decide_eq_decide]; omega), below_drewN ((Below.refl _ _).alloc (Nat.le_refl _) _) _⟩
theorem whole_le (ds : List UInt8) (hd : Tx.AllD ds) (hl : ds.length ≤ 18) (w : World) :
    Calls Try.prog 56 #[.string ⟨ds.toArray⟩] w fun e w' => e = .returned (.int .i64 (Tx.num ds)) ∧ Below w.heap.size w w' :=
  whole_any ds hd (fun k hk => by
    have := Tx.num_lt (ds.take k) (Tx.allD_take hd k) (by rw [List.length_take]; omega)
    omega) w
theorem cat (ds es : List UInt8) : (⟨ds.toArray⟩ : ByteArray) ++ ⟨es.toArray⟩ = ⟨(ds ++ es).toArray⟩ := by simp [ByteArray.ext_iff]
theorem allD_app {ds es : List UInt8} (h : Tx.AllD ds) (k : Tx.AllD es) : Tx.AllD (ds ++ es) := fun c hc => by
  rcases List.mem_append.1 hc with h1 | h1
  · exact h c h1
  · exact k c h1
set_option maxHeartbeats 400000 in
theorem numOf_dot_true (ds es : List UInt8) (a c : Int) (w : World) (hd : Tx.AllD ds) (he : Tx.AllD es) (hl : ds.length + es.length ≤ 18) (hc : c = 46) :
    Calls Try.prog 49 #[.agg #[.bool true, .string ⟨ds.toArray⟩, .int .u8 c, .int .i64 a, .string ⟨es.toArray⟩]] w fun e w' => e = .returned (.int .i64 (-Tx.num (ds ++ es))) ∧ Below w.heap.size w w' := by
  have tc : (c == 46) = true := by rw [beq_iff_eq]; exact hc
  have hb := Tx.num_le (ds ++ es) (allD_app hd he) (by simp; omega)
  obtain ⟨b1, b2⟩ := hb
  have HW : Hid (∀ W, Calls Try.prog 56 #[.string ⟨(ds ++ es).toArray⟩] W fun e w' => e = .returned (.int .i64 (Tx.num (ds ++ es))) ∧ Below W.heap.size W w') := fun W => whole_le (ds ++ es) (allD_app hd he) (by simp; omega) W
  have hcat := cat ds es
  clear hc hd he
  go_enter Try.func49, Try.ntmps49
  go_wp2_with fail
  refine (HW.out _).mono ?_
  rintro e w1 ⟨rfl, hb1⟩
  have H1 : Hid (Below w.heap.size w w1) := by refine box_step ?_ hb1 (Nat.le_refl _); go_grown
  clear hb1
  go_wp2
  go_ret
  exact ⟨rfl, H1.out⟩
set_option maxHeartbeats 400000 in
theorem numOf_no_true (ds es : List UInt8) (a c : Int) (w : World) (hd : Tx.AllD ds) (hl : ds.length ≤ 18) (hc : c ≠ 46) :
    Calls Try.prog 49 #[.agg #[.bool true, .string ⟨ds.toArray⟩, .int .u8 c, .int .i64 a, .string ⟨es.toArray⟩]] w fun e w' => e = .returned (.int .i64 (-Tx.num ds)) ∧ Below w.heap.size w w' := by
  have tc : (c == 46) = false := by rw [beq_eq_false_iff_ne]; exact hc
  obtain ⟨b1, b2⟩ := Tx.num_le ds hd hl
  have HW : Hid (∀ W, Calls Try.prog 56 #[.string ⟨ds.toArray⟩] W fun e w' => e = .returned (.int .i64 (Tx.num ds)) ∧ Below W.heap.size W w') := fun W => whole_le ds hd hl W
  clear hc hd
  go_enter Try.func49, Try.ntmps49
  go_wp2_with fail
  refine (HW.out _).mono ?_
  rintro e w1 ⟨rfl, hb1⟩
  have H1 : Hid (Below w.heap.size w w1) := by refine box_step ?_ hb1 (Nat.le_refl _); go_grown
  clear hb1
  go_wp2
  go_ret
  exact ⟨rfl, H1.out⟩
set_option maxHeartbeats 400000 in
theorem numOf_dot_false (ds es : List UInt8) (a c : Int) (w : World) (hd : Tx.AllD ds) (he : Tx.AllD es) (hl : ds.length + es.length ≤ 18) (hc : c = 46) :
    Calls Try.prog 49 #[.agg #[.bool false, .string ⟨ds.toArray⟩, .int .u8 c, .int .i64 a, .string ⟨es.toArray⟩]] w fun e w' => e = .returned (.int .i64 (Tx.num (ds ++ es))) ∧ Below w.heap.size w w' := by
  have tc : (c == 46) = true := by rw [beq_iff_eq]; exact hc
  have hb := Tx.num_le (ds ++ es) (allD_app hd he) (by simp; omega)
  obtain ⟨b1, b2⟩ := hb
  have HW : Hid (∀ W, Calls Try.prog 56 #[.string ⟨(ds ++ es).toArray⟩] W fun e w' => e = .returned (.int .i64 (Tx.num (ds ++ es))) ∧ Below W.heap.size W w') := fun W => whole_le (ds ++ es) (allD_app hd he) (by simp; omega) W
  have hcat := cat ds es
  clear hc hd he
  go_enter Try.func49, Try.ntmps49
  go_wp2_with fail
  refine (HW.out _).mono ?_
  rintro e w1 ⟨rfl, hb1⟩
  have H1 : Hid (Below w.heap.size w w1) := by refine box_step ?_ hb1 (Nat.le_refl _); go_grown
  clear hb1
  go_wp2
  go_ret
  exact ⟨rfl, H1.out⟩
set_option maxHeartbeats 400000 in
theorem numOf_no_false (ds es : List UInt8) (a c : Int) (w : World) (hd : Tx.AllD ds) (hl : ds.length ≤ 18) (hc : c ≠ 46) :
    Calls Try.prog 49 #[.agg #[.bool false, .string ⟨ds.toArray⟩, .int .u8 c, .int .i64 a, .string ⟨es.toArray⟩]] w fun e w' => e = .returned (.int .i64 (Tx.num ds)) ∧ Below w.heap.size w w' := by
  have tc : (c == 46) = false := by rw [beq_eq_false_iff_ne]; exact hc
  obtain ⟨b1, b2⟩ := Tx.num_le ds hd hl
  have HW : Hid (∀ W, Calls Try.prog 56 #[.string ⟨ds.toArray⟩] W fun e w' => e = .returned (.int .i64 (Tx.num ds)) ∧ Below W.heap.size W w') := fun W => whole_le ds hd hl W
  clear hc hd
  go_enter Try.func49, Try.ntmps49
  go_wp2_with fail
  refine (HW.out _).mono ?_
  rintro e w1 ⟨rfl, hb1⟩
  have H1 : Hid (Below w.heap.size w w1) := by refine box_step ?_ hb1 (Nat.le_refl _); go_grown
  clear hb1
  go_wp2
  go_ret
  exact ⟨rfl, H1.out⟩
theorem rep48 : ∀ k, Lib.repeatL [48] k = List.replicate k 48
  | 0 => rfl
  | k + 1 => by unfold Lib.repeatL; rw [rep48 k]; rfl
theorem take_ten (k j : Nat) (h : j < k + 1) (hk : k ≤ 18) : Tx.num ((49 :: List.replicate k 48).take j) ≤ 100000000000000000 := by
  cases j with
  | zero => rw [List.take_zero]; exact (by decide)
  | succ j =>
    rw [List.take_succ_cons, List.take_replicate, Nat.min_eq_left (by omega), Tx.num_ten]
    exact Tx.pow17 j (by omega)
theorem allD_ten (k : Nat) : Tx.AllD (49 :: List.replicate k 48) := fun c hc => by
  rcases List.mem_cons.1 hc with rfl | h
  · decide
  · rw [List.eq_of_mem_replicate h]; decide
set_option maxHeartbeats 400000 in
theorem denOf_dot (m : Bool) (ds es : List UInt8) (a c : Int) (w : World) (hl : es.length ≤ 18) (hc : c = 46) :
    Calls Try.prog 50 #[.agg #[.bool m, .string ⟨ds.toArray⟩, .int .u8 c, .int .i64 a, .string ⟨es.toArray⟩]] w fun e w' => e = .returned (.int .i64 (10 ^ es.length)) ∧ Below w.heap.size w w' := by
  have tc : (c == 46) = true := by rw [beq_iff_eq]; exact hc
  have HR : Hid (∀ W, Calls Try.prog 57 #[.string ⟨#[48]⟩, .int .i64 (es.length : Int)] W fun e w' => e = .returned (.string ⟨(List.replicate es.length 48).toArray⟩) ∧ Below W.heap.size W w') := fun W => by
    have := repeatS ⟨#[48]⟩ es.length W (by omega) (by show 1 * es.length ≤ _; omega)
    rwa [show (⟨#[48]⟩ : ByteArray).data.toList = [48] from rfl, rep48] at this
  have HW : Hid (∀ W, Calls Try.prog 56 #[.string ⟨(49 :: List.replicate es.length 48).toArray⟩] W fun e w' => e = .returned (.int .i64 (10 ^ es.length)) ∧ Below W.heap.size W w') := fun W => by
    have := whole_any (49 :: List.replicate es.length 48) (allD_ten _) (fun k hk => take_ten es.length k (by simpa using hk) hl) W
    rwa [Tx.num_ten] at this
  have hcat : (⟨#[49]⟩ : ByteArray) ++ ⟨(List.replicate es.length 48).toArray⟩ = ⟨(49 :: List.replicate es.length 48).toArray⟩ := cat [49] (List.replicate es.length 48)
  obtain ⟨z, hz⟩ : ∃ z, z = (⟨(List.replicate es.length 48).toArray⟩ : ByteArray) := ⟨_, rfl⟩
  obtain ⟨o, ho⟩ : ∃ o, o = (⟨(49 :: List.replicate es.length 48).toArray⟩ : ByteArray) := ⟨_, rfl⟩
  have hzs : z.size ≤ 18 := by rw [hz]; show (List.replicate es.length (48 : UInt8)).length ≤ 18; simpa using hl
  rw [← hz, ← ho] at hcat
  rw [← hz] at HR
  rw [← ho] at HW
  clear hz ho hc
  go_enter Try.func50, Try.ntmps50
  go_wp2_with fail
  refine (HR.out _).mono ?_
  rintro e w1 ⟨rfl, hb1⟩
  have H1 : Hid (Below w.heap.size w w1) := by refine box_step ?_ hb1 (Nat.le_refl _); go_grown
  clear hb1
  go_wp2_with fail
  refine (HW.out _).mono ?_
  rintro e w2 ⟨rfl, hb2⟩
  have H2 : Hid (Below w.heap.size w w2) := box_step H1.out hb2 (Nat.le_refl _)
  clear hb2
  go_wp2
  go_ret
  exact ⟨rfl, H2.out⟩
set_option maxHeartbeats 400000 in
theorem denOf_bar (m : Bool) (ds es : List UInt8) (a c : Int) (w : World) (he : Tx.AllD es) (hl : es.length ≤ 18) (hc : c = 47) :
    Calls Try.prog 50 #[.agg #[.bool m, .string ⟨ds.toArray⟩, .int .u8 c, .int .i64 a, .string ⟨es.toArray⟩]] w fun e w' => e = .returned (.int .i64 (Tx.num es)) ∧ Below w.heap.size w w' := by
  have tc : (c == 46) = false := by rw [beq_eq_false_iff_ne]; omega
  have tc2 : (c == 47) = true := by rw [beq_iff_eq]; exact hc
  have HW : Hid (∀ W, Calls Try.prog 56 #[.string ⟨es.toArray⟩] W fun e w' => e = .returned (.int .i64 (Tx.num es)) ∧ Below W.heap.size W w') := fun W => whole_le es he hl W
  clear hc he
  go_enter Try.func50, Try.ntmps50
  go_wp2_with fail
  refine (HW.out _).mono ?_
  rintro e w1 ⟨rfl, hb1⟩
  have H1 : Hid (Below w.heap.size w w1) := by refine box_step ?_ hb1 (Nat.le_refl _); go_grown
  clear hb1
  go_wp2
  go_ret
  exact ⟨rfl, H1.out⟩
set_option maxHeartbeats 400000 in
theorem denOf_no (m : Bool) (ds es : List UInt8) (a : Int) (w : World) :
    Calls Try.prog 50 #[.agg #[.bool m, .string ⟨ds.toArray⟩, .int .u8 0, .int .i64 a, .string ⟨es.toArray⟩]] w fun e w' => e = .returned (.int .i64 1) ∧ Below w.heap.size w w' := by
  go_enter Try.func50, Try.ntmps50
  go_wp2
  go_ret
  exact ⟨rfl, (Below.refl _ _).alloc (Nat.le_refl _) _⟩
end Go.Proofs.Ytkmbcbjholpfbaa
