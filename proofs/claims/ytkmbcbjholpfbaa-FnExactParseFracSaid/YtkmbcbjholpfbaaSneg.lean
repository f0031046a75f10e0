/- The specification's ParseFrac, shape by shape of the text (a minus ahead). -/
import Derived.Test.YtkmbcbjholpfbaaIparts
import Derived.Test.YtkmbcbjholpfbaaShape
import Derived.Test.YtkmbcbjholpfbaaTwos
import Derived.Handy
namespace Go.Proofs.Ytkmbcbjholpfbaa
open Go.RowKit
set_option linter.unusedVariables false
set_option maxHeartbeats 1000000 in
theorem sp_A_true (r : List UInt8) (s : ByteArray) (hs : s.data.toList = Tx.sgn true ++ ([] ++ r)) (hr : Tx.NoD r) (h : s.size ≤ 4000) (w : World) :
    Calls Try.prog 30 #[.string s] w fun e w' => e = .returned (.agg #[.int .i64 5, .int .i64 (1), .int .i64 0, .int .i64 0]) ∧ Below w.heap.size w w' := by
  have hsz := size_of hs
  have h0 : 0 < s.size := by rw [hsz]; simp [Tx.sgn]
  have hb0 : (s[0]'h0) = 45 := at_mark (pre := []) (ds := []) (rest := _) hs 0 rfl h0
  have hE := not_empty h0
  have hI : (s.size : Int) ≤ 4000 := by omega
  have HD1 : Hid (∀ W, Calls Try.prog 43 #[.string s, .int .i64 1] W fun e w' => e = .returned (.int .i64 0) ∧ w' = W) := fun W => digits_any s (Tx.sgn true) [] r hs (fun c h => by cases h) hr (by omega) W
  clear hsz hs hr
  go_enter Try.func30, Try.ntmps30
  go_wp2_with fail
  refine (HD1.out _).mono ?_
  rintro e w' ⟨rfl, hw⟩
  rw [hw]
  clear hw w'
  go_wp2_with fail
  refine (textFault_any _ _ _).mono ?_
  rintro e w1 ⟨rfl, hb1⟩
  have H1 : Hid (Below w.heap.size w w1) := box_out (hb1.mono (by simp))
  obtain ⟨c0, c1, c2, c3, f0, f1, f2, f3, hz⟩ := box4 (hb1.mono (by simp))
  clear hb1
  go_wp2
  refine bodyPost_ret (v := .agg #[.int .i64 5, .int .i64 (1), .int .i64 0, .int .i64 0]) (by simp [results, Try.results30, go_sem, c0, c1, c2, c3]) rfl ⟨rfl, ?_⟩
  have H2 := H1.out
  go_grown
set_option maxHeartbeats 1000000 in
theorem sp_B1_true (ds : List UInt8) (s : ByteArray) (hs : s.data.toList = Tx.sgn true ++ (ds ++ [])) (hd : Tx.AllD ds) (hne : ds ≠ []) (h18 : 18 < ds.length) (h : s.size ≤ 4000) (w : World) :
    Calls Try.prog 30 #[.string s] w fun e w' => e = .returned (.agg #[.int .i64 3, .int .i64 (0), .int .i64 0, .int .i64 0]) ∧ Below w.heap.size w w' := by
  have hr : Tx.NoD [] := fun c t e => by cases e
  have hsz : s.size = 1 + (ds.length + 0) := by rw [size_of hs]; simp [Tx.sgn] <;> omega
  have h0 : 0 < s.size := by rw [hsz]; have := len_pos hne; omega
  have hb0 : (s[0]'h0) = 45 := at_mark (pre := []) (ds := []) (rest := _) hs 0 rfl h0
  have hE := not_empty h0
  have HD1 : Hid (∀ W, Calls Try.prog 43 #[.string s, .int .i64 1] W fun e w' => e = .returned (.int .i64 (ds.length : Int)) ∧ w' = W) := fun W => digits_any s (Tx.sgn true) ds ([]) hs hd hr (by omega) W
  have tn : ((ds.length : Int) == 0) = false := by rw [beq_eq_false_iff_ne]; have := len_pos hne; omega
  have hx1 : s.extract 1 (1 + ds.length) = ⟨ds.toArray⟩ := by
    exact piece hs _ _ rfl (by simp [Tx.sgn])
  have hI : (s.size : Int) ≤ 4000 := by omega
  have hI2 : (s.size : Int) = 1 + (ds.length : Int) := by omega
  have hI4 : (18 : Int) < (ds.length : Int) := by omega
  have hI3 : (s.size : Int) ≤ 1 + (ds.length : Int) := by omega
  have hI5 : 1 + (ds.length : Int) ≤ (s.size : Int) := by omega
  clear hI2 hsz hs hr hd hne
  go_enter Try.func30, Try.ntmps30
  go_wp2_with fail
  refine (HD1.out _).mono ?_
  rintro e w' ⟨rfl, hw⟩
  rw [hw]
  clear hw w'
  go_wp2_with fail
  refine (textFault_any _ _ _).mono ?_
  rintro e w1 ⟨rfl, hb1⟩
  have H1 : Hid (Below w.heap.size w w1) := box_out (hb1.mono (by simp))
  obtain ⟨c0, c1, c2, c3, f0, f1, f2, f3, hz⟩ := box4 (hb1.mono (by simp))
  clear hb1
  go_wp2
  refine bodyPost_ret (v := .agg #[.int .i64 3, .int .i64 (0), .int .i64 0, .int .i64 0]) (by simp [results, Try.results30, go_sem, c0, c1, c2, c3]) rfl ⟨rfl, ?_⟩
  have H2 := H1.out
  go_grown
set_option maxHeartbeats 1000000 in
theorem sp_B2_true (ds : List UInt8) (s : ByteArray) (hs : s.data.toList = Tx.sgn true ++ (ds ++ [])) (hd : Tx.AllD ds) (hne : ds ≠ []) (h18 : ds.length ≤ 18) (h : s.size ≤ 4000) (w : World) :
    Calls Try.prog 30 #[.string s] w fun e w' => e = .returned (.agg #[.int .i64 (resC (-1 * Tx.num ds) 1), .int .i64 0, .int .i64 (resN (-1 * Tx.num ds) 1), .int .i64 (resD (-1 * Tx.num ds) 1)]) ∧ Below w.heap.size w w' := by
  have hr : Tx.NoD [] := fun c t e => by cases e
  have hsz : s.size = 1 + (ds.length + 0) := by rw [size_of hs]; simp [Tx.sgn] <;> omega
  have h0 : 0 < s.size := by rw [hsz]; have := len_pos hne; omega
  have hb0 : (s[0]'h0) = 45 := at_mark (pre := []) (ds := []) (rest := _) hs 0 rfl h0
  have hE := not_empty h0
  have HD1 : Hid (∀ W, Calls Try.prog 43 #[.string s, .int .i64 1] W fun e w' => e = .returned (.int .i64 (ds.length : Int)) ∧ w' = W) := fun W => digits_any s (Tx.sgn true) ds ([]) hs hd hr (by omega) W
  have tn : ((ds.length : Int) == 0) = false := by rw [beq_eq_false_iff_ne]; have := len_pos hne; omega
  have hx1 : s.extract 1 (1 + ds.length) = ⟨ds.toArray⟩ := by
    exact piece hs _ _ rfl (by simp [Tx.sgn])
  obtain ⟨b1, b2⟩ := Tx.num_le ds hd h18
  have HN : Hid (∀ W, Calls Try.prog 44 #[.string ⟨ds.toArray⟩] W fun e w' => e = .returned (.int .i64 (Tx.num ds)) ∧ w' = W) := fun W => number_any ds hd h18 W
  have hI : (s.size : Int) ≤ 4000 := by omega
  have hI2 : (s.size : Int) = 1 + (ds.length : Int) := by omega
  have hI4 : (ds.length : Int) ≤ 18 := by omega
  have hI3 : (s.size : Int) ≤ 1 + (ds.length : Int) := by omega
  have hI5 : 1 + (ds.length : Int) ≤ (s.size : Int) := by omega
  clear hI2 hsz hs hr hd hne
  go_enter Try.func30, Try.ntmps30
  go_wp2_with fail
  refine (HD1.out _).mono ?_
  rintro e w' ⟨rfl, hw⟩
  rw [hw]
  clear hw w'
  go_wp2_with fail
  refine (HN.out _).mono ?_
  rintro e w' ⟨rfl, hw⟩
  rw [hw]
  clear hw w'
  go_wp2_with fail
  rw [show (-Tx.num ds) = -1 * Tx.num ds by omega]
  refine (told_any (-1 * Tx.num ds) 1 _ (by omega) (by omega) (by omega) (by omega) (by omega)).mono ?_
  rintro e w1 ⟨rfl, hb1⟩
  have H1 : Hid (Below w.heap.size w w1) := box_out (hb1.mono (by simp))
  obtain ⟨c0, c1, c2, c3, f0, f1, f2, f3, hz⟩ := box4 (hb1.mono (by simp))
  clear hb1
  go_wp2
  refine bodyPost_ret (v := .agg #[.int .i64 (resC (-1 * Tx.num ds) 1), .int .i64 0, .int .i64 (resN (-1 * Tx.num ds) 1), .int .i64 (resD (-1 * Tx.num ds) 1)]) (by simp [results, Try.results30, go_sem, c0, c1, c2, c3]) rfl ⟨rfl, ?_⟩
  have H2 := H1.out
  go_grown
set_option maxHeartbeats 1000000 in
theorem sp_D_true (ds : List UInt8) (c : UInt8) (r : List UInt8) (s : ByteArray) (hs : s.data.toList = Tx.sgn true ++ (ds ++ (c :: r))) (hd : Tx.AllD ds) (hne : ds ≠ []) (hr : Tx.NoD (c :: r)) (hc : c ≠ 46 ∧ c ≠ 47) (h : s.size ≤ 4000) (w : World) :
    Calls Try.prog 30 #[.string s] w fun e w' => e = .returned (.agg #[.int .i64 5, .int .i64 (1 + (ds.length : Int)), .int .i64 0, .int .i64 0]) ∧ Below w.heap.size w w' := by
  have hsz : s.size = 1 + (ds.length + (r.length + 1)) := by rw [size_of hs]; simp [Tx.sgn] <;> omega
  have h0 : 0 < s.size := by rw [hsz]; have := len_pos hne; omega
  have hb0 : (s[0]'h0) = 45 := at_mark (pre := []) (ds := []) (rest := _) hs 0 rfl h0
  have hE := not_empty h0
  have HD1 : Hid (∀ W, Calls Try.prog 43 #[.string s, .int .i64 1] W fun e w' => e = .returned (.int .i64 (ds.length : Int)) ∧ w' = W) := fun W => digits_any s (Tx.sgn true) ds (c :: r) hs hd hr (by omega) W
  have tn : ((ds.length : Int) == 0) = false := by rw [beq_eq_false_iff_ne]; have := len_pos hne; omega
  have hx1 : s.extract 1 (1 + ds.length) = ⟨ds.toArray⟩ := by
    exact piece hs _ _ rfl (by simp [Tx.sgn])
  have hi : 1 + ds.length < s.size := by omega
  have hb1 : (s[1 + ds.length]'hi) = c := at_mark hs _ (by simp [Tx.sgn]) hi
  have t46 : ((c.toNat : Int) == 46) = false := ne_byte c 46 46 rfl hc.1
  have t47 : ((c.toNat : Int) == 47) = false := ne_byte c 47 47 rfl hc.2
  have hI : (s.size : Int) ≤ 4000 := by omega
  have hI2 : 1 + (ds.length : Int) < (s.size : Int) := by omega
  clear hsz hs hr hc
  go_enter Try.func30, Try.ntmps30
  go_wp2_with fail
  refine (HD1.out _).mono ?_
  rintro e w' ⟨rfl, hw⟩
  rw [hw]
  clear hw w'
  go_wp2_with fail
  refine (textFault_any _ _ _).mono ?_
  rintro e w1 ⟨rfl, hb1⟩
  have H1 : Hid (Below w.heap.size w w1) := box_out (hb1.mono (by simp))
  obtain ⟨c0, c1, c2, c3, f0, f1, f2, f3, hz⟩ := box4 (hb1.mono (by simp))
  clear hb1
  go_wp2
  refine bodyPost_ret (v := .agg #[.int .i64 5, .int .i64 (1 + (ds.length : Int)), .int .i64 0, .int .i64 0]) (by simp [results, Try.results30, go_sem, c0, c1, c2, c3]) rfl ⟨rfl, ?_⟩
  have H2 := H1.out
  go_grown
set_option maxHeartbeats 1000000 in
theorem sp_C1_46_true (ds r : List UInt8) (s : ByteArray) (hs : s.data.toList = Tx.sgn true ++ (ds ++ (46 :: r))) (hd : Tx.AllD ds) (hne : ds ≠ []) (hr2 : Tx.NoD r) (h : s.size ≤ 4000) (w : World) :
    Calls Try.prog 30 #[.string s] w fun e w' => e = .returned (.agg #[.int .i64 5, .int .i64 (1 + (ds.length : Int) + 1), .int .i64 0, .int .i64 0]) ∧ Below w.heap.size w w' := by
  have hr : Tx.NoD (46 :: r) := fun c t e => by cases e; decide
  have he : Tx.AllD [] := fun c h => by cases h
  have hsz : s.size = 1 + (ds.length + (r.length + 1)) := by rw [size_of hs]; simp [Tx.sgn] <;> omega
  have h0 : 0 < s.size := by rw [hsz]; have := len_pos hne; omega
  have hb0 : (s[0]'h0) = 45 := at_mark (pre := []) (ds := []) (rest := _) hs 0 rfl h0
  have hE := not_empty h0
  have HD1 : Hid (∀ W, Calls Try.prog 43 #[.string s, .int .i64 1] W fun e w' => e = .returned (.int .i64 (ds.length : Int)) ∧ w' = W) := fun W => digits_any s (Tx.sgn true) ds (46 :: r) hs hd hr (by omega) W
  have tn : ((ds.length : Int) == 0) = false := by rw [beq_eq_false_iff_ne]; have := len_pos hne; omega
  have hx1 : s.extract 1 (1 + ds.length) = ⟨ds.toArray⟩ := by
    exact piece hs _ _ rfl (by simp [Tx.sgn])
  have hi : 1 + ds.length < s.size := by omega
  have hb1 : (s[1 + ds.length]'hi) = 46 := at_mark hs _ (by simp [Tx.sgn]) hi
  have HD2 : Hid (∀ (x : Int), x = 1 + (ds.length : Int) + 1 → ∀ W, Calls Try.prog 43 #[.string s, .int .i64 x] W fun e w' => e = .returned (.int .i64 (([]).length : Int)) ∧ w' = W) := fun x hx W => digits_at s (Tx.sgn true ++ (ds ++ [46])) ([]) (r) x (by rw [hx]; simp [Tx.sgn] <;> omega) (by rw [hs]; simp) he hr2 (by omega) W
  have hI : (s.size : Int) ≤ 4000 := by omega
  have hI2 : 1 + (ds.length : Int) < (s.size : Int) := by omega
  clear hsz hs hr
  go_enter Try.func30, Try.ntmps30
  go_wp2_with fail
  refine (HD1.out _).mono ?_
  rintro e w' ⟨rfl, hw⟩
  rw [hw]
  clear hw w'
  go_wp2_with fail
  refine (HD2.out _ (by omega) _).mono ?_
  rintro e w' ⟨rfl, hw⟩
  rw [hw]
  clear hw w'
  go_wp2_with fail
  refine (textFault_any _ _ _).mono ?_
  rintro e w1 ⟨rfl, hb1⟩
  have H1 : Hid (Below w.heap.size w w1) := box_out (hb1.mono (by simp))
  obtain ⟨c0, c1, c2, c3, f0, f1, f2, f3, hz⟩ := box4 (hb1.mono (by simp))
  clear hb1
  go_wp2
  refine bodyPost_ret (v := .agg #[.int .i64 5, .int .i64 (1 + (ds.length : Int) + 1), .int .i64 0, .int .i64 0]) (by simp [results, Try.results30, go_sem, c0, c1, c2, c3]) rfl ⟨rfl, ?_⟩
  have H2 := H1.out
  go_grown
set_option maxHeartbeats 1000000 in
theorem sp_C2_46_true (ds es : List UInt8) (c : UInt8) (r : List UInt8) (s : ByteArray) (hs : s.data.toList = Tx.sgn true ++ (ds ++ (46 :: (es ++ (c :: r))))) (hd : Tx.AllD ds) (hne : ds ≠ []) (he : Tx.AllD es) (hne2 : es ≠ []) (hr2 : Tx.NoD (c :: r)) (h : s.size ≤ 4000) (w : World) :
    Calls Try.prog 30 #[.string s] w fun e w' => e = .returned (.agg #[.int .i64 5, .int .i64 (1 + (ds.length : Int) + 1 + (es.length : Int)), .int .i64 0, .int .i64 0]) ∧ Below w.heap.size w w' := by
  have hr : Tx.NoD (46 :: (es ++ (c :: r))) := fun c t e => by cases e; decide
  have hsz : s.size = 1 + (ds.length + (es.length + (r.length + 1) + 1)) := by rw [size_of hs]; simp [Tx.sgn] <;> omega
  have h0 : 0 < s.size := by rw [hsz]; have := len_pos hne; omega
  have hb0 : (s[0]'h0) = 45 := at_mark (pre := []) (ds := []) (rest := _) hs 0 rfl h0
  have hE := not_empty h0
  have HD1 : Hid (∀ W, Calls Try.prog 43 #[.string s, .int .i64 1] W fun e w' => e = .returned (.int .i64 (ds.length : Int)) ∧ w' = W) := fun W => digits_any s (Tx.sgn true) ds (46 :: (es ++ (c :: r))) hs hd hr (by omega) W
  have tn : ((ds.length : Int) == 0) = false := by rw [beq_eq_false_iff_ne]; have := len_pos hne; omega
  have hx1 : s.extract 1 (1 + ds.length) = ⟨ds.toArray⟩ := by
    exact piece hs _ _ rfl (by simp [Tx.sgn])
  have hi : 1 + ds.length < s.size := by omega
  have hb1 : (s[1 + ds.length]'hi) = 46 := at_mark hs _ (by simp [Tx.sgn]) hi
  have HD2 : Hid (∀ (x : Int), x = 1 + (ds.length : Int) + 1 → ∀ W, Calls Try.prog 43 #[.string s, .int .i64 x] W fun e w' => e = .returned (.int .i64 ((es).length : Int)) ∧ w' = W) := fun x hx W => digits_at s (Tx.sgn true ++ (ds ++ [46])) (es) (c :: r) x (by rw [hx]; simp [Tx.sgn] <;> omega) (by rw [hs]; simp) he hr2 (by omega) W
  have hI : (s.size : Int) ≤ 4000 := by omega
  have hI2 : 1 + (ds.length : Int) < (s.size : Int) := by omega
  have hx2 : s.extract (1 + ds.length + 1) (1 + ds.length + 1 + es.length) = ⟨es.toArray⟩ := piece (pre := Tx.sgn true ++ (ds ++ [46])) (ds := es) (rest := (c :: r)) (by rw [hs]; simp) _ _ (by simp [Tx.sgn] <;> omega) (by simp [Tx.sgn] <;> omega)
  have tk : ((es.length : Int) == 0) = false := by rw [beq_eq_false_iff_ne]; have := len_pos hne2; omega
  have hI3 : 1 + (ds.length : Int) + 1 + (es.length : Int) < (s.size : Int) := by omega
  clear hsz hs hr
  go_enter Try.func30, Try.ntmps30
  go_wp2_with fail
  refine (HD1.out _).mono ?_
  rintro e w' ⟨rfl, hw⟩
  rw [hw]
  clear hw w'
  go_wp2_with fail
  refine (HD2.out _ (by omega) _).mono ?_
  rintro e w' ⟨rfl, hw⟩
  rw [hw]
  clear hw w'
  go_wp2_with fail
  refine (textFault_any _ _ _).mono ?_
  rintro e w1 ⟨rfl, hb1⟩
  have H1 : Hid (Below w.heap.size w w1) := box_out (hb1.mono (by simp))
  obtain ⟨c0, c1, c2, c3, f0, f1, f2, f3, hz⟩ := box4 (hb1.mono (by simp))
  clear hb1
  go_wp2
  refine bodyPost_ret (v := .agg #[.int .i64 5, .int .i64 (1 + (ds.length : Int) + 1 + (es.length : Int)), .int .i64 0, .int .i64 0]) (by simp [results, Try.results30, go_sem, c0, c1, c2, c3]) rfl ⟨rfl, ?_⟩
  have H2 := H1.out
  go_grown
set_option maxHeartbeats 1000000 in
theorem sp_C3a_46_true (ds es : List UInt8) (s : ByteArray) (hs : s.data.toList = Tx.sgn true ++ (ds ++ (46 :: (es ++ [])))) (hd : Tx.AllD ds) (hne : ds ≠ []) (he : Tx.AllD es) (hne2 : es ≠ []) (h18 : 18 < ds.length) (h : s.size ≤ 4000) (w : World) :
    Calls Try.prog 30 #[.string s] w fun e w' => e = .returned (.agg #[.int .i64 3, .int .i64 (0), .int .i64 0, .int .i64 0]) ∧ Below w.heap.size w w' := by
  have hr : Tx.NoD (46 :: (es ++ [])) := fun c t e => by cases e; decide
  have hr2 : Tx.NoD [] := fun c t e => by cases e
  have hsz : s.size = 1 + (ds.length + (es.length + 1)) := by rw [size_of hs]; simp [Tx.sgn] <;> omega
  have h0 : 0 < s.size := by rw [hsz]; have := len_pos hne; omega
  have hb0 : (s[0]'h0) = 45 := at_mark (pre := []) (ds := []) (rest := _) hs 0 rfl h0
  have hE := not_empty h0
  have HD1 : Hid (∀ W, Calls Try.prog 43 #[.string s, .int .i64 1] W fun e w' => e = .returned (.int .i64 (ds.length : Int)) ∧ w' = W) := fun W => digits_any s (Tx.sgn true) ds (46 :: (es ++ [])) hs hd hr (by omega) W
  have tn : ((ds.length : Int) == 0) = false := by rw [beq_eq_false_iff_ne]; have := len_pos hne; omega
  have hx1 : s.extract 1 (1 + ds.length) = ⟨ds.toArray⟩ := by
    exact piece hs _ _ rfl (by simp [Tx.sgn])
  have hi : 1 + ds.length < s.size := by omega
  have hb1 : (s[1 + ds.length]'hi) = 46 := at_mark hs _ (by simp [Tx.sgn]) hi
  have HD2 : Hid (∀ (x : Int), x = 1 + (ds.length : Int) + 1 → ∀ W, Calls Try.prog 43 #[.string s, .int .i64 x] W fun e w' => e = .returned (.int .i64 ((es).length : Int)) ∧ w' = W) := fun x hx W => digits_at s (Tx.sgn true ++ (ds ++ [46])) (es) ([]) x (by rw [hx]; simp [Tx.sgn] <;> omega) (by rw [hs]; simp) he hr2 (by omega) W
  have hI : (s.size : Int) ≤ 4000 := by omega
  have hI2 : 1 + (ds.length : Int) < (s.size : Int) := by omega
  have hx2 : s.extract (1 + ds.length + 1) (1 + ds.length + 1 + es.length) = ⟨es.toArray⟩ := piece (pre := Tx.sgn true ++ (ds ++ [46])) (ds := es) (rest := []) (by rw [hs]; simp) _ _ (by simp [Tx.sgn] <;> omega) (by simp [Tx.sgn] <;> omega)
  have tk : ((es.length : Int) == 0) = false := by rw [beq_eq_false_iff_ne]; have := len_pos hne2; omega
  have hI9 : 1 + (ds.length : Int) + 1 + (es.length : Int) = (s.size : Int) := by omega
  have hI3 : 1 + (ds.length : Int) + 1 + (es.length : Int) ≤ (s.size : Int) := by omega
  have hI6 : (s.size : Int) ≤ 1 + (ds.length : Int) + 1 + (es.length : Int) := by omega
  have hI4 : (18 : Int) < (ds.length : Int) := by omega
  clear hsz hs hr hI9
  go_enter Try.func30, Try.ntmps30
  go_wp2_with fail
  refine (HD1.out _).mono ?_
  rintro e w' ⟨rfl, hw⟩
  rw [hw]
  clear hw w'
  go_wp2_with fail
  refine (HD2.out _ (by omega) _).mono ?_
  rintro e w' ⟨rfl, hw⟩
  rw [hw]
  clear hw w'
  go_wp2_with fail
  refine (textFault_any _ _ _).mono ?_
  rintro e w1 ⟨rfl, hb1⟩
  have H1 : Hid (Below w.heap.size w w1) := box_out (hb1.mono (by simp))
  obtain ⟨c0, c1, c2, c3, f0, f1, f2, f3, hz⟩ := box4 (hb1.mono (by simp))
  clear hb1
  go_wp2
  refine bodyPost_ret (v := .agg #[.int .i64 3, .int .i64 (0), .int .i64 0, .int .i64 0]) (by simp [results, Try.results30, go_sem, c0, c1, c2, c3]) rfl ⟨rfl, ?_⟩
  have H2 := H1.out
  go_grown
set_option maxHeartbeats 1000000 in
theorem sp_C3b_46_true (ds es : List UInt8) (s : ByteArray) (hs : s.data.toList = Tx.sgn true ++ (ds ++ (46 :: (es ++ [])))) (hd : Tx.AllD ds) (hne : ds ≠ []) (he : Tx.AllD es) (hne2 : es ≠ []) (h18 : ds.length ≤ 18) (h19 : 18 < es.length) (h : s.size ≤ 4000) (w : World) :
    Calls Try.prog 30 #[.string s] w fun e w' => e = .returned (.agg #[.int .i64 3, .int .i64 (0), .int .i64 0, .int .i64 0]) ∧ Below w.heap.size w w' := by
  have hr : Tx.NoD (46 :: (es ++ [])) := fun c t e => by cases e; decide
  have hr2 : Tx.NoD [] := fun c t e => by cases e
  have hsz : s.size = 1 + (ds.length + (es.length + 1)) := by rw [size_of hs]; simp [Tx.sgn] <;> omega
  have h0 : 0 < s.size := by rw [hsz]; have := len_pos hne; omega
  have hb0 : (s[0]'h0) = 45 := at_mark (pre := []) (ds := []) (rest := _) hs 0 rfl h0
  have hE := not_empty h0
  have HD1 : Hid (∀ W, Calls Try.prog 43 #[.string s, .int .i64 1] W fun e w' => e = .returned (.int .i64 (ds.length : Int)) ∧ w' = W) := fun W => digits_any s (Tx.sgn true) ds (46 :: (es ++ [])) hs hd hr (by omega) W
  have tn : ((ds.length : Int) == 0) = false := by rw [beq_eq_false_iff_ne]; have := len_pos hne; omega
  have hx1 : s.extract 1 (1 + ds.length) = ⟨ds.toArray⟩ := by
    exact piece hs _ _ rfl (by simp [Tx.sgn])
  have hi : 1 + ds.length < s.size := by omega
  have hb1 : (s[1 + ds.length]'hi) = 46 := at_mark hs _ (by simp [Tx.sgn]) hi
  have HD2 : Hid (∀ (x : Int), x = 1 + (ds.length : Int) + 1 → ∀ W, Calls Try.prog 43 #[.string s, .int .i64 x] W fun e w' => e = .returned (.int .i64 ((es).length : Int)) ∧ w' = W) := fun x hx W => digits_at s (Tx.sgn true ++ (ds ++ [46])) (es) ([]) x (by rw [hx]; simp [Tx.sgn] <;> omega) (by rw [hs]; simp) he hr2 (by omega) W
  have hI : (s.size : Int) ≤ 4000 := by omega
  have hI2 : 1 + (ds.length : Int) < (s.size : Int) := by omega
  have hx2 : s.extract (1 + ds.length + 1) (1 + ds.length + 1 + es.length) = ⟨es.toArray⟩ := piece (pre := Tx.sgn true ++ (ds ++ [46])) (ds := es) (rest := []) (by rw [hs]; simp) _ _ (by simp [Tx.sgn] <;> omega) (by simp [Tx.sgn] <;> omega)
  have tk : ((es.length : Int) == 0) = false := by rw [beq_eq_false_iff_ne]; have := len_pos hne2; omega
  have hI9 : 1 + (ds.length : Int) + 1 + (es.length : Int) = (s.size : Int) := by omega
  have hI3 : 1 + (ds.length : Int) + 1 + (es.length : Int) ≤ (s.size : Int) := by omega
  have hI6 : (s.size : Int) ≤ 1 + (ds.length : Int) + 1 + (es.length : Int) := by omega
  have hI4 : (ds.length : Int) ≤ 18 := by omega
  have hI5 : (18 : Int) < (es.length : Int) := by omega
  clear hsz hs hr hI9
  go_enter Try.func30, Try.ntmps30
  go_wp2_with fail
  refine (HD1.out _).mono ?_
  rintro e w' ⟨rfl, hw⟩
  rw [hw]
  clear hw w'
  go_wp2_with fail
  refine (HD2.out _ (by omega) _).mono ?_
  rintro e w' ⟨rfl, hw⟩
  rw [hw]
  clear hw w'
  go_wp2_with fail
  refine (textFault_any _ _ _).mono ?_
  rintro e w1 ⟨rfl, hb1⟩
  have H1 : Hid (Below w.heap.size w w1) := box_out (hb1.mono (by simp))
  obtain ⟨c0, c1, c2, c3, f0, f1, f2, f3, hz⟩ := box4 (hb1.mono (by simp))
  clear hb1
  go_wp2
  refine bodyPost_ret (v := .agg #[.int .i64 3, .int .i64 (0), .int .i64 0, .int .i64 0]) (by simp [results, Try.results30, go_sem, c0, c1, c2, c3]) rfl ⟨rfl, ?_⟩
  have H2 := H1.out
  go_grown
set_option maxHeartbeats 1000000 in
theorem sp_C3c_46_true (ds es : List UInt8) (s : ByteArray) (hs : s.data.toList = Tx.sgn true ++ (ds ++ (46 :: (es ++ [])))) (hd : Tx.AllD ds) (hne : ds ≠ []) (he : Tx.AllD es) (hne2 : es ≠ []) (h18 : ds.length ≤ 18) (h19 : es.length ≤ 18) (h20 : 18 < ds.length + es.length) (h : s.size ≤ 4000) (w : World) :
    Calls Try.prog 30 #[.string s] w fun e w' => e = .returned (.agg #[.int .i64 3, .int .i64 (0), .int .i64 0, .int .i64 0]) ∧ Below w.heap.size w w' := by
  have hr : Tx.NoD (46 :: (es ++ [])) := fun c t e => by cases e; decide
  have hr2 : Tx.NoD [] := fun c t e => by cases e
  have hsz : s.size = 1 + (ds.length + (es.length + 1)) := by rw [size_of hs]; simp [Tx.sgn] <;> omega
  have h0 : 0 < s.size := by rw [hsz]; have := len_pos hne; omega
  have hb0 : (s[0]'h0) = 45 := at_mark (pre := []) (ds := []) (rest := _) hs 0 rfl h0
  have hE := not_empty h0
  have HD1 : Hid (∀ W, Calls Try.prog 43 #[.string s, .int .i64 1] W fun e w' => e = .returned (.int .i64 (ds.length : Int)) ∧ w' = W) := fun W => digits_any s (Tx.sgn true) ds (46 :: (es ++ [])) hs hd hr (by omega) W
  have tn : ((ds.length : Int) == 0) = false := by rw [beq_eq_false_iff_ne]; have := len_pos hne; omega
  have hx1 : s.extract 1 (1 + ds.length) = ⟨ds.toArray⟩ := by
    exact piece hs _ _ rfl (by simp [Tx.sgn])
  have hi : 1 + ds.length < s.size := by omega
  have hb1 : (s[1 + ds.length]'hi) = 46 := at_mark hs _ (by simp [Tx.sgn]) hi
  have HD2 : Hid (∀ (x : Int), x = 1 + (ds.length : Int) + 1 → ∀ W, Calls Try.prog 43 #[.string s, .int .i64 x] W fun e w' => e = .returned (.int .i64 ((es).length : Int)) ∧ w' = W) := fun x hx W => digits_at s (Tx.sgn true ++ (ds ++ [46])) (es) ([]) x (by rw [hx]; simp [Tx.sgn] <;> omega) (by rw [hs]; simp) he hr2 (by omega) W
  have hI : (s.size : Int) ≤ 4000 := by omega
  have hI2 : 1 + (ds.length : Int) < (s.size : Int) := by omega
  have hx2 : s.extract (1 + ds.length + 1) (1 + ds.length + 1 + es.length) = ⟨es.toArray⟩ := piece (pre := Tx.sgn true ++ (ds ++ [46])) (ds := es) (rest := []) (by rw [hs]; simp) _ _ (by simp [Tx.sgn] <;> omega) (by simp [Tx.sgn] <;> omega)
  have tk : ((es.length : Int) == 0) = false := by rw [beq_eq_false_iff_ne]; have := len_pos hne2; omega
  have hI9 : 1 + (ds.length : Int) + 1 + (es.length : Int) = (s.size : Int) := by omega
  have hI3 : 1 + (ds.length : Int) + 1 + (es.length : Int) ≤ (s.size : Int) := by omega
  have hI6 : (s.size : Int) ≤ 1 + (ds.length : Int) + 1 + (es.length : Int) := by omega
  have hI4 : (ds.length : Int) ≤ 18 := by omega
  have hI5 : (es.length : Int) ≤ 18 := by omega
  have hI7 : (18 : Int) < (ds.length : Int) + (es.length : Int) := by omega
  clear hsz hs hr hI9
  go_enter Try.func30, Try.ntmps30
  go_wp2_with fail
  refine (HD1.out _).mono ?_
  rintro e w' ⟨rfl, hw⟩
  rw [hw]
  clear hw w'
  go_wp2_with fail
  refine (HD2.out _ (by omega) _).mono ?_
  rintro e w' ⟨rfl, hw⟩
  rw [hw]
  clear hw w'
  go_wp2_with fail
  refine (textFault_any _ _ _).mono ?_
  rintro e w1 ⟨rfl, hb1⟩
  have H1 : Hid (Below w.heap.size w w1) := box_out (hb1.mono (by simp))
  obtain ⟨c0, c1, c2, c3, f0, f1, f2, f3, hz⟩ := box4 (hb1.mono (by simp))
  clear hb1
  go_wp2
  refine bodyPost_ret (v := .agg #[.int .i64 3, .int .i64 (0), .int .i64 0, .int .i64 0]) (by simp [results, Try.results30, go_sem, c0, c1, c2, c3]) rfl ⟨rfl, ?_⟩
  have H2 := H1.out
  go_grown
set_option maxHeartbeats 1000000 in
theorem sp_C3d_46_true (ds es : List UInt8) (s : ByteArray) (hs : s.data.toList = Tx.sgn true ++ (ds ++ (46 :: (es ++ [])))) (hd : Tx.AllD ds) (hne : ds ≠ []) (he : Tx.AllD es) (hne2 : es ≠ []) (h18 : ds.length + es.length ≤ 18) (h : s.size ≤ 4000) (w : World) :
    Calls Try.prog 30 #[.string s] w fun e w' => e = .returned (.agg #[.int .i64 (resC (-1 * Tx.num (ds ++ es)) (10 ^ es.length)), .int .i64 0, .int .i64 (resN (-1 * Tx.num (ds ++ es)) (10 ^ es.length)), .int .i64 (resD (-1 * Tx.num (ds ++ es)) (10 ^ es.length))]) ∧ Below w.heap.size w w' := by
  have hr : Tx.NoD (46 :: (es ++ [])) := fun c t e => by cases e; decide
  have hr2 : Tx.NoD [] := fun c t e => by cases e
  have hsz : s.size = 1 + (ds.length + (es.length + 1)) := by rw [size_of hs]; simp [Tx.sgn] <;> omega
  have h0 : 0 < s.size := by rw [hsz]; have := len_pos hne; omega
  have hb0 : (s[0]'h0) = 45 := at_mark (pre := []) (ds := []) (rest := _) hs 0 rfl h0
  have hE := not_empty h0
  have HD1 : Hid (∀ W, Calls Try.prog 43 #[.string s, .int .i64 1] W fun e w' => e = .returned (.int .i64 (ds.length : Int)) ∧ w' = W) := fun W => digits_any s (Tx.sgn true) ds (46 :: (es ++ [])) hs hd hr (by omega) W
  have tn : ((ds.length : Int) == 0) = false := by rw [beq_eq_false_iff_ne]; have := len_pos hne; omega
  have hx1 : s.extract 1 (1 + ds.length) = ⟨ds.toArray⟩ := by
    exact piece hs _ _ rfl (by simp [Tx.sgn])
  have hi : 1 + ds.length < s.size := by omega
  have hb1 : (s[1 + ds.length]'hi) = 46 := at_mark hs _ (by simp [Tx.sgn]) hi
  have HD2 : Hid (∀ (x : Int), x = 1 + (ds.length : Int) + 1 → ∀ W, Calls Try.prog 43 #[.string s, .int .i64 x] W fun e w' => e = .returned (.int .i64 ((es).length : Int)) ∧ w' = W) := fun x hx W => digits_at s (Tx.sgn true ++ (ds ++ [46])) (es) ([]) x (by rw [hx]; simp [Tx.sgn] <;> omega) (by rw [hs]; simp) he hr2 (by omega) W
  have hI : (s.size : Int) ≤ 4000 := by omega
  have hI2 : 1 + (ds.length : Int) < (s.size : Int) := by omega
  have hx2 : s.extract (1 + ds.length + 1) (1 + ds.length + 1 + es.length) = ⟨es.toArray⟩ := piece (pre := Tx.sgn true ++ (ds ++ [46])) (ds := es) (rest := []) (by rw [hs]; simp) _ _ (by simp [Tx.sgn] <;> omega) (by simp [Tx.sgn] <;> omega)
  have tk : ((es.length : Int) == 0) = false := by rw [beq_eq_false_iff_ne]; have := len_pos hne2; omega
  have hI9 : 1 + (ds.length : Int) + 1 + (es.length : Int) = (s.size : Int) := by omega
  have hI3 : 1 + (ds.length : Int) + 1 + (es.length : Int) ≤ (s.size : Int) := by omega
  have hI6 : (s.size : Int) ≤ 1 + (ds.length : Int) + 1 + (es.length : Int) := by omega
  have hI4 : (ds.length : Int) ≤ 18 := by omega
  have hI5 : (es.length : Int) ≤ 18 := by omega
  have hI7 : (ds.length : Int) + (es.length : Int) ≤ 18 := by omega
  obtain ⟨b1, b2⟩ := Tx.num_le (ds ++ es) (allD_app hd he) (by simp; omega)
  have HN : Hid (∀ W, Calls Try.prog 44 #[.string ⟨(ds ++ es).toArray⟩] W fun e w' => e = .returned (.int .i64 (Tx.num (ds ++ es))) ∧ w' = W) := fun W => number_any (ds ++ es) (allD_app hd he) (by simp; omega) W
  have hcat := cat ds es
  have hp1 := Tx.pow_le es.length (by omega)
  have hp2 := Tx.pow_pos es.length
  clear hsz hs hr hI9
  go_enter Try.func30, Try.ntmps30
  go_wp2_with fail
  refine (HD1.out _).mono ?_
  rintro e w' ⟨rfl, hw⟩
  rw [hw]
  clear hw w'
  go_wp2_with fail
  refine (HD2.out _ (by omega) _).mono ?_
  rintro e w' ⟨rfl, hw⟩
  rw [hw]
  clear hw w'
  go_wp2_with fail
  go_loop [12, 13] (fun d i => ∃ k : Nat, k ≤ es.length ∧ i = .int .i64 k ∧ d = .int .i64 (10 ^ k)) (fun _ i => es.length - (intOf i).toNat)
  case atStart => exact ⟨0, Nat.zero_le _, rfl, rfl⟩
  case round =>
    obtain ⟨k, hk, rfl, rfl⟩ := hrel
    by_cases hlt : k < es.length
    · have q1 := Tx.pow17 k (by omega)
      have q2 := Tx.pow_pos k
      have HP : Hid ((10 : Int) ^ (k + 1) = 10 ^ k * 10) := Int.pow_succ 10 k
      obtain ⟨z, hz⟩ : ∃ z : Int, z = 10 ^ k := ⟨_, rfl⟩
      rw [← hz] at q1 q2 HP ⊢
      clear hz
      go_wp2
      go_round
      case rel => exact ⟨k + 1, by omega, by go_num, by rw [HP.out]⟩
      case measure => simp [intOf]; omega
    · have hke : k = es.length := by omega
      subst hke
      obtain ⟨z, hz⟩ : ∃ z : Int, z = 10 ^ es.length := ⟨_, rfl⟩
      rw [← hz] at hp1 hp2 ⊢
      have HZ : Hid (z = 10 ^ es.length) := hz
      clear hz
      go_wp2_with fail
      refine (HN.out _).mono ?_
      rintro e w' ⟨rfl, hw⟩
      rw [hw]
      clear hw w'
      go_wp2_with fail
      rw [show (-Tx.num (ds ++ es)) = -1 * Tx.num (ds ++ es) by omega]
      refine (told_any (-1 * Tx.num (ds ++ es)) z _ (by omega) (by omega) (by omega) (by omega) (by omega)).mono ?_
      rintro e w1 ⟨rfl, hb1⟩
      have H1 : Hid (Below w.heap.size w w1) := box_out (hb1.mono (by simp))
      obtain ⟨c0, c1, c2, c3, f0, f1, f2, f3, hz⟩ := box4 (hb1.mono (by simp))
      clear hb1
      go_wp2
      refine bodyPost_ret (v := .agg #[.int .i64 (resC (-1 * Tx.num (ds ++ es)) z), .int .i64 0, .int .i64 (resN (-1 * Tx.num (ds ++ es)) z), .int .i64 (resD (-1 * Tx.num (ds ++ es)) z)]) (by simp [results, Try.results30, go_sem, c0, c1, c2, c3]) rfl ⟨by rw [HZ.out], ?_⟩
      have H2 := H1.out
      go_grown
set_option maxHeartbeats 1000000 in
theorem sp_C1_47_true (ds r : List UInt8) (s : ByteArray) (hs : s.data.toList = Tx.sgn true ++ (ds ++ (47 :: r))) (hd : Tx.AllD ds) (hne : ds ≠ []) (hr2 : Tx.NoD r) (h : s.size ≤ 4000) (w : World) :
    Calls Try.prog 30 #[.string s] w fun e w' => e = .returned (.agg #[.int .i64 5, .int .i64 (1 + (ds.length : Int) + 1), .int .i64 0, .int .i64 0]) ∧ Below w.heap.size w w' := by
  have hr : Tx.NoD (47 :: r) := fun c t e => by cases e; decide
  have he : Tx.AllD [] := fun c h => by cases h
  have hsz : s.size = 1 + (ds.length + (r.length + 1)) := by rw [size_of hs]; simp [Tx.sgn] <;> omega
  have h0 : 0 < s.size := by rw [hsz]; have := len_pos hne; omega
  have hb0 : (s[0]'h0) = 45 := at_mark (pre := []) (ds := []) (rest := _) hs 0 rfl h0
  have hE := not_empty h0
  have HD1 : Hid (∀ W, Calls Try.prog 43 #[.string s, .int .i64 1] W fun e w' => e = .returned (.int .i64 (ds.length : Int)) ∧ w' = W) := fun W => digits_any s (Tx.sgn true) ds (47 :: r) hs hd hr (by omega) W
  have tn : ((ds.length : Int) == 0) = false := by rw [beq_eq_false_iff_ne]; have := len_pos hne; omega
  have hx1 : s.extract 1 (1 + ds.length) = ⟨ds.toArray⟩ := by
    exact piece hs _ _ rfl (by simp [Tx.sgn])
  have hi : 1 + ds.length < s.size := by omega
  have hb1 : (s[1 + ds.length]'hi) = 47 := at_mark hs _ (by simp [Tx.sgn]) hi
  have HD2 : Hid (∀ (x : Int), x = 1 + (ds.length : Int) + 1 → ∀ W, Calls Try.prog 43 #[.string s, .int .i64 x] W fun e w' => e = .returned (.int .i64 (([]).length : Int)) ∧ w' = W) := fun x hx W => digits_at s (Tx.sgn true ++ (ds ++ [47])) ([]) (r) x (by rw [hx]; simp [Tx.sgn] <;> omega) (by rw [hs]; simp) he hr2 (by omega) W
  have hI : (s.size : Int) ≤ 4000 := by omega
  have hI2 : 1 + (ds.length : Int) < (s.size : Int) := by omega
  clear hsz hs hr
  go_enter Try.func30, Try.ntmps30
  go_wp2_with fail
  refine (HD1.out _).mono ?_
  rintro e w' ⟨rfl, hw⟩
  rw [hw]
  clear hw w'
  go_wp2_with fail
  refine (HD2.out _ (by omega) _).mono ?_
  rintro e w' ⟨rfl, hw⟩
  rw [hw]
  clear hw w'
  go_wp2_with fail
  refine (textFault_any _ _ _).mono ?_
  rintro e w1 ⟨rfl, hb1⟩
  have H1 : Hid (Below w.heap.size w w1) := box_out (hb1.mono (by simp))
  obtain ⟨c0, c1, c2, c3, f0, f1, f2, f3, hz⟩ := box4 (hb1.mono (by simp))
  clear hb1
  go_wp2
  refine bodyPost_ret (v := .agg #[.int .i64 5, .int .i64 (1 + (ds.length : Int) + 1), .int .i64 0, .int .i64 0]) (by simp [results, Try.results30, go_sem, c0, c1, c2, c3]) rfl ⟨rfl, ?_⟩
  have H2 := H1.out
  go_grown
set_option maxHeartbeats 1000000 in
theorem sp_C2_47_true (ds es : List UInt8) (c : UInt8) (r : List UInt8) (s : ByteArray) (hs : s.data.toList = Tx.sgn true ++ (ds ++ (47 :: (es ++ (c :: r))))) (hd : Tx.AllD ds) (hne : ds ≠ []) (he : Tx.AllD es) (hne2 : es ≠ []) (hr2 : Tx.NoD (c :: r)) (h : s.size ≤ 4000) (w : World) :
    Calls Try.prog 30 #[.string s] w fun e w' => e = .returned (.agg #[.int .i64 5, .int .i64 (1 + (ds.length : Int) + 1 + (es.length : Int)), .int .i64 0, .int .i64 0]) ∧ Below w.heap.size w w' := by
  have hr : Tx.NoD (47 :: (es ++ (c :: r))) := fun c t e => by cases e; decide
  have hsz : s.size = 1 + (ds.length + (es.length + (r.length + 1) + 1)) := by rw [size_of hs]; simp [Tx.sgn] <;> omega
  have h0 : 0 < s.size := by rw [hsz]; have := len_pos hne; omega
  have hb0 : (s[0]'h0) = 45 := at_mark (pre := []) (ds := []) (rest := _) hs 0 rfl h0
  have hE := not_empty h0
  have HD1 : Hid (∀ W, Calls Try.prog 43 #[.string s, .int .i64 1] W fun e w' => e = .returned (.int .i64 (ds.length : Int)) ∧ w' = W) := fun W => digits_any s (Tx.sgn true) ds (47 :: (es ++ (c :: r))) hs hd hr (by omega) W
  have tn : ((ds.length : Int) == 0) = false := by rw [beq_eq_false_iff_ne]; have := len_pos hne; omega
  have hx1 : s.extract 1 (1 + ds.length) = ⟨ds.toArray⟩ := by
    exact piece hs _ _ rfl (by simp [Tx.sgn])
  have hi : 1 + ds.length < s.size := by omega
  have hb1 : (s[1 + ds.length]'hi) = 47 := at_mark hs _ (by simp [Tx.sgn]) hi
  have HD2 : Hid (∀ (x : Int), x = 1 + (ds.length : Int) + 1 → ∀ W, Calls Try.prog 43 #[.string s, .int .i64 x] W fun e w' => e = .returned (.int .i64 ((es).length : Int)) ∧ w' = W) := fun x hx W => digits_at s (Tx.sgn true ++ (ds ++ [47])) (es) (c :: r) x (by rw [hx]; simp [Tx.sgn] <;> omega) (by rw [hs]; simp) he hr2 (by omega) W
  have hI : (s.size : Int) ≤ 4000 := by omega
  have hI2 : 1 + (ds.length : Int) < (s.size : Int) := by omega
  have hx2 : s.extract (1 + ds.length + 1) (1 + ds.length + 1 + es.length) = ⟨es.toArray⟩ := piece (pre := Tx.sgn true ++ (ds ++ [47])) (ds := es) (rest := (c :: r)) (by rw [hs]; simp) _ _ (by simp [Tx.sgn] <;> omega) (by simp [Tx.sgn] <;> omega)
  have tk : ((es.length : Int) == 0) = false := by rw [beq_eq_false_iff_ne]; have := len_pos hne2; omega
  have hI3 : 1 + (ds.length : Int) + 1 + (es.length : Int) < (s.size : Int) := by omega
  clear hsz hs hr
  go_enter Try.func30, Try.ntmps30
  go_wp2_with fail
  refine (HD1.out _).mono ?_
  rintro e w' ⟨rfl, hw⟩
  rw [hw]
  clear hw w'
  go_wp2_with fail
  refine (HD2.out _ (by omega) _).mono ?_
  rintro e w' ⟨rfl, hw⟩
  rw [hw]
  clear hw w'
  go_wp2_with fail
  refine (textFault_any _ _ _).mono ?_
  rintro e w1 ⟨rfl, hb1⟩
  have H1 : Hid (Below w.heap.size w w1) := box_out (hb1.mono (by simp))
  obtain ⟨c0, c1, c2, c3, f0, f1, f2, f3, hz⟩ := box4 (hb1.mono (by simp))
  clear hb1
  go_wp2
  refine bodyPost_ret (v := .agg #[.int .i64 5, .int .i64 (1 + (ds.length : Int) + 1 + (es.length : Int)), .int .i64 0, .int .i64 0]) (by simp [results, Try.results30, go_sem, c0, c1, c2, c3]) rfl ⟨rfl, ?_⟩
  have H2 := H1.out
  go_grown
set_option maxHeartbeats 1000000 in
theorem sp_C3a_47_true (ds es : List UInt8) (s : ByteArray) (hs : s.data.toList = Tx.sgn true ++ (ds ++ (47 :: (es ++ [])))) (hd : Tx.AllD ds) (hne : ds ≠ []) (he : Tx.AllD es) (hne2 : es ≠ []) (h18 : 18 < ds.length) (h : s.size ≤ 4000) (w : World) :
    Calls Try.prog 30 #[.string s] w fun e w' => e = .returned (.agg #[.int .i64 3, .int .i64 (0), .int .i64 0, .int .i64 0]) ∧ Below w.heap.size w w' := by
  have hr : Tx.NoD (47 :: (es ++ [])) := fun c t e => by cases e; decide
  have hr2 : Tx.NoD [] := fun c t e => by cases e
  have hsz : s.size = 1 + (ds.length + (es.length + 1)) := by rw [size_of hs]; simp [Tx.sgn] <;> omega
  have h0 : 0 < s.size := by rw [hsz]; have := len_pos hne; omega
  have hb0 : (s[0]'h0) = 45 := at_mark (pre := []) (ds := []) (rest := _) hs 0 rfl h0
  have hE := not_empty h0
  have HD1 : Hid (∀ W, Calls Try.prog 43 #[.string s, .int .i64 1] W fun e w' => e = .returned (.int .i64 (ds.length : Int)) ∧ w' = W) := fun W => digits_any s (Tx.sgn true) ds (47 :: (es ++ [])) hs hd hr (by omega) W
  have tn : ((ds.length : Int) == 0) = false := by rw [beq_eq_false_iff_ne]; have := len_pos hne; omega
  have hx1 : s.extract 1 (1 + ds.length) = ⟨ds.toArray⟩ := by
    exact piece hs _ _ rfl (by simp [Tx.sgn])
  have hi : 1 + ds.length < s.size := by omega
  have hb1 : (s[1 + ds.length]'hi) = 47 := at_mark hs _ (by simp [Tx.sgn]) hi
  have HD2 : Hid (∀ (x : Int), x = 1 + (ds.length : Int) + 1 → ∀ W, Calls Try.prog 43 #[.string s, .int .i64 x] W fun e w' => e = .returned (.int .i64 ((es).length : Int)) ∧ w' = W) := fun x hx W => digits_at s (Tx.sgn true ++ (ds ++ [47])) (es) ([]) x (by rw [hx]; simp [Tx.sgn] <;> omega) (by rw [hs]; simp) he hr2 (by omega) W
  have hI : (s.size : Int) ≤ 4000 := by omega
  have hI2 : 1 + (ds.length : Int) < (s.size : Int) := by omega
  have hx2 : s.extract (1 + ds.length + 1) (1 + ds.length + 1 + es.length) = ⟨es.toArray⟩ := piece (pre := Tx.sgn true ++ (ds ++ [47])) (ds := es) (rest := []) (by rw [hs]; simp) _ _ (by simp [Tx.sgn] <;> omega) (by simp [Tx.sgn] <;> omega)
  have tk : ((es.length : Int) == 0) = false := by rw [beq_eq_false_iff_ne]; have := len_pos hne2; omega
  have hI9 : 1 + (ds.length : Int) + 1 + (es.length : Int) = (s.size : Int) := by omega
  have hI3 : 1 + (ds.length : Int) + 1 + (es.length : Int) ≤ (s.size : Int) := by omega
  have hI6 : (s.size : Int) ≤ 1 + (ds.length : Int) + 1 + (es.length : Int) := by omega
  have hI4 : (18 : Int) < (ds.length : Int) := by omega
  clear hsz hs hr hI9
  go_enter Try.func30, Try.ntmps30
  go_wp2_with fail
  refine (HD1.out _).mono ?_
  rintro e w' ⟨rfl, hw⟩
  rw [hw]
  clear hw w'
  go_wp2_with fail
  refine (HD2.out _ (by omega) _).mono ?_
  rintro e w' ⟨rfl, hw⟩
  rw [hw]
  clear hw w'
  go_wp2_with fail
  refine (textFault_any _ _ _).mono ?_
  rintro e w1 ⟨rfl, hb1⟩
  have H1 : Hid (Below w.heap.size w w1) := box_out (hb1.mono (by simp))
  obtain ⟨c0, c1, c2, c3, f0, f1, f2, f3, hz⟩ := box4 (hb1.mono (by simp))
  clear hb1
  go_wp2
  refine bodyPost_ret (v := .agg #[.int .i64 3, .int .i64 (0), .int .i64 0, .int .i64 0]) (by simp [results, Try.results30, go_sem, c0, c1, c2, c3]) rfl ⟨rfl, ?_⟩
  have H2 := H1.out
  go_grown
set_option maxHeartbeats 1000000 in
theorem sp_C3b_47_true (ds es : List UInt8) (s : ByteArray) (hs : s.data.toList = Tx.sgn true ++ (ds ++ (47 :: (es ++ [])))) (hd : Tx.AllD ds) (hne : ds ≠ []) (he : Tx.AllD es) (hne2 : es ≠ []) (h18 : ds.length ≤ 18) (h19 : 18 < es.length) (h : s.size ≤ 4000) (w : World) :
    Calls Try.prog 30 #[.string s] w fun e w' => e = .returned (.agg #[.int .i64 3, .int .i64 (0), .int .i64 0, .int .i64 0]) ∧ Below w.heap.size w w' := by
  have hr : Tx.NoD (47 :: (es ++ [])) := fun c t e => by cases e; decide
  have hr2 : Tx.NoD [] := fun c t e => by cases e
  have hsz : s.size = 1 + (ds.length + (es.length + 1)) := by rw [size_of hs]; simp [Tx.sgn] <;> omega
  have h0 : 0 < s.size := by rw [hsz]; have := len_pos hne; omega
  have hb0 : (s[0]'h0) = 45 := at_mark (pre := []) (ds := []) (rest := _) hs 0 rfl h0
  have hE := not_empty h0
  have HD1 : Hid (∀ W, Calls Try.prog 43 #[.string s, .int .i64 1] W fun e w' => e = .returned (.int .i64 (ds.length : Int)) ∧ w' = W) := fun W => digits_any s (Tx.sgn true) ds (47 :: (es ++ [])) hs hd hr (by omega) W
  have tn : ((ds.length : Int) == 0) = false := by rw [beq_eq_false_iff_ne]; have := len_pos hne; omega
  have hx1 : s.extract 1 (1 + ds.length) = ⟨ds.toArray⟩ := by
    exact piece hs _ _ rfl (by simp [Tx.sgn])
  have hi : 1 + ds.length < s.size := by omega
  have hb1 : (s[1 + ds.length]'hi) = 47 := at_mark hs _ (by simp [Tx.sgn]) hi
  have HD2 : Hid (∀ (x : Int), x = 1 + (ds.length : Int) + 1 → ∀ W, Calls Try.prog 43 #[.string s, .int .i64 x] W fun e w' => e = .returned (.int .i64 ((es).length : Int)) ∧ w' = W) := fun x hx W => digits_at s (Tx.sgn true ++ (ds ++ [47])) (es) ([]) x (by rw [hx]; simp [Tx.sgn] <;> omega) (by rw [hs]; simp) he hr2 (by omega) W
  have hI : (s.size : Int) ≤ 4000 := by omega
  have hI2 : 1 + (ds.length : Int) < (s.size : Int) := by omega
  have hx2 : s.extract (1 + ds.length + 1) (1 + ds.length + 1 + es.length) = ⟨es.toArray⟩ := piece (pre := Tx.sgn true ++ (ds ++ [47])) (ds := es) (rest := []) (by rw [hs]; simp) _ _ (by simp [Tx.sgn] <;> omega) (by simp [Tx.sgn] <;> omega)
  have tk : ((es.length : Int) == 0) = false := by rw [beq_eq_false_iff_ne]; have := len_pos hne2; omega
  have hI9 : 1 + (ds.length : Int) + 1 + (es.length : Int) = (s.size : Int) := by omega
  have hI3 : 1 + (ds.length : Int) + 1 + (es.length : Int) ≤ (s.size : Int) := by omega
  have hI6 : (s.size : Int) ≤ 1 + (ds.length : Int) + 1 + (es.length : Int) := by omega
  have hI4 : (ds.length : Int) ≤ 18 := by omega
  have hI5 : (18 : Int) < (es.length : Int) := by omega
  clear hsz hs hr hI9
  go_enter Try.func30, Try.ntmps30
  go_wp2_with fail
  refine (HD1.out _).mono ?_
  rintro e w' ⟨rfl, hw⟩
  rw [hw]
  clear hw w'
  go_wp2_with fail
  refine (HD2.out _ (by omega) _).mono ?_
  rintro e w' ⟨rfl, hw⟩
  rw [hw]
  clear hw w'
  go_wp2_with fail
  refine (textFault_any _ _ _).mono ?_
  rintro e w1 ⟨rfl, hb1⟩
  have H1 : Hid (Below w.heap.size w w1) := box_out (hb1.mono (by simp))
  obtain ⟨c0, c1, c2, c3, f0, f1, f2, f3, hz⟩ := box4 (hb1.mono (by simp))
  clear hb1
  go_wp2
  refine bodyPost_ret (v := .agg #[.int .i64 3, .int .i64 (0), .int .i64 0, .int .i64 0]) (by simp [results, Try.results30, go_sem, c0, c1, c2, c3]) rfl ⟨rfl, ?_⟩
  have H2 := H1.out
  go_grown
set_option maxHeartbeats 1000000 in
theorem sp_C3z_47_true (ds es : List UInt8) (s : ByteArray) (hs : s.data.toList = Tx.sgn true ++ (ds ++ (47 :: (es ++ [])))) (hd : Tx.AllD ds) (hne : ds ≠ []) (he : Tx.AllD es) (hne2 : es ≠ []) (h18 : ds.length ≤ 18) (h19 : es.length ≤ 18) (hz : Tx.num es = 0) (h : s.size ≤ 4000) (w : World) :
    Calls Try.prog 30 #[.string s] w fun e w' => e = .returned (.agg #[.int .i64 6, .int .i64 (1 + (ds.length : Int)), .int .i64 0, .int .i64 0]) ∧ Below w.heap.size w w' := by
  have hr : Tx.NoD (47 :: (es ++ [])) := fun c t e => by cases e; decide
  have hr2 : Tx.NoD [] := fun c t e => by cases e
  have hsz : s.size = 1 + (ds.length + (es.length + 1)) := by rw [size_of hs]; simp [Tx.sgn] <;> omega
  have h0 : 0 < s.size := by rw [hsz]; have := len_pos hne; omega
  have hb0 : (s[0]'h0) = 45 := at_mark (pre := []) (ds := []) (rest := _) hs 0 rfl h0
  have hE := not_empty h0
  have HD1 : Hid (∀ W, Calls Try.prog 43 #[.string s, .int .i64 1] W fun e w' => e = .returned (.int .i64 (ds.length : Int)) ∧ w' = W) := fun W => digits_any s (Tx.sgn true) ds (47 :: (es ++ [])) hs hd hr (by omega) W
  have tn : ((ds.length : Int) == 0) = false := by rw [beq_eq_false_iff_ne]; have := len_pos hne; omega
  have hx1 : s.extract 1 (1 + ds.length) = ⟨ds.toArray⟩ := by
    exact piece hs _ _ rfl (by simp [Tx.sgn])
  have hi : 1 + ds.length < s.size := by omega
  have hb1 : (s[1 + ds.length]'hi) = 47 := at_mark hs _ (by simp [Tx.sgn]) hi
  have HD2 : Hid (∀ (x : Int), x = 1 + (ds.length : Int) + 1 → ∀ W, Calls Try.prog 43 #[.string s, .int .i64 x] W fun e w' => e = .returned (.int .i64 ((es).length : Int)) ∧ w' = W) := fun x hx W => digits_at s (Tx.sgn true ++ (ds ++ [47])) (es) ([]) x (by rw [hx]; simp [Tx.sgn] <;> omega) (by rw [hs]; simp) he hr2 (by omega) W
  have hI : (s.size : Int) ≤ 4000 := by omega
  have hI2 : 1 + (ds.length : Int) < (s.size : Int) := by omega
  have hx2 : s.extract (1 + ds.length + 1) (1 + ds.length + 1 + es.length) = ⟨es.toArray⟩ := piece (pre := Tx.sgn true ++ (ds ++ [47])) (ds := es) (rest := []) (by rw [hs]; simp) _ _ (by simp [Tx.sgn] <;> omega) (by simp [Tx.sgn] <;> omega)
  have tk : ((es.length : Int) == 0) = false := by rw [beq_eq_false_iff_ne]; have := len_pos hne2; omega
  have hI9 : 1 + (ds.length : Int) + 1 + (es.length : Int) = (s.size : Int) := by omega
  have hI3 : 1 + (ds.length : Int) + 1 + (es.length : Int) ≤ (s.size : Int) := by omega
  have hI6 : (s.size : Int) ≤ 1 + (ds.length : Int) + 1 + (es.length : Int) := by omega
  have hI4 : (ds.length : Int) ≤ 18 := by omega
  have hI5 : (es.length : Int) ≤ 18 := by omega
  obtain ⟨b1, b2⟩ := Tx.num_le ds hd h18
  obtain ⟨b3, b4⟩ := Tx.num_le es he h19
  have HN : Hid (∀ W, Calls Try.prog 44 #[.string ⟨ds.toArray⟩] W fun e w' => e = .returned (.int .i64 (Tx.num ds)) ∧ w' = W) := fun W => number_any ds hd h18 W
  have HM : Hid (∀ W, Calls Try.prog 44 #[.string ⟨es.toArray⟩] W fun e w' => e = .returned (.int .i64 (Tx.num es)) ∧ w' = W) := fun W => number_any es he h19 W
  have tz : (Tx.num es == 0) = true := by rw [beq_iff_eq]; exact hz
  clear hz
  clear hsz hs hr hI9
  go_enter Try.func30, Try.ntmps30
  go_wp2_with fail
  refine (HD1.out _).mono ?_
  rintro e w' ⟨rfl, hw⟩
  rw [hw]
  clear hw w'
  go_wp2_with fail
  refine (HD2.out _ (by omega) _).mono ?_
  rintro e w' ⟨rfl, hw⟩
  rw [hw]
  clear hw w'
  go_wp2_with fail
  refine (HM.out _).mono ?_
  rintro e w' ⟨rfl, hw⟩
  rw [hw]
  clear hw w'
  go_wp2_with fail
  refine (textFault_any _ _ _).mono ?_
  rintro e w1 ⟨rfl, hb1⟩
  have H1 : Hid (Below w.heap.size w w1) := box_out (hb1.mono (by simp))
  obtain ⟨c0, c1, c2, c3, f0, f1, f2, f3, hz⟩ := box4 (hb1.mono (by simp))
  clear hb1
  go_wp2
  refine bodyPost_ret (v := .agg #[.int .i64 6, .int .i64 (1 + (ds.length : Int)), .int .i64 0, .int .i64 0]) (by simp [results, Try.results30, go_sem, c0, c1, c2, c3]) rfl ⟨rfl, ?_⟩
  have H2 := H1.out
  go_grown
set_option maxHeartbeats 1000000 in
theorem sp_C3d_47_true (ds es : List UInt8) (s : ByteArray) (hs : s.data.toList = Tx.sgn true ++ (ds ++ (47 :: (es ++ [])))) (hd : Tx.AllD ds) (hne : ds ≠ []) (he : Tx.AllD es) (hne2 : es ≠ []) (h18 : ds.length ≤ 18) (h19 : es.length ≤ 18) (hz : Tx.num es ≠ 0) (h : s.size ≤ 4000) (w : World) :
    Calls Try.prog 30 #[.string s] w fun e w' => e = .returned (.agg #[.int .i64 (resC (-1 * Tx.num ds) (Tx.num es)), .int .i64 0, .int .i64 (resN (-1 * Tx.num ds) (Tx.num es)), .int .i64 (resD (-1 * Tx.num ds) (Tx.num es))]) ∧ Below w.heap.size w w' := by
  have hr : Tx.NoD (47 :: (es ++ [])) := fun c t e => by cases e; decide
  have hr2 : Tx.NoD [] := fun c t e => by cases e
  have hsz : s.size = 1 + (ds.length + (es.length + 1)) := by rw [size_of hs]; simp [Tx.sgn] <;> omega
  have h0 : 0 < s.size := by rw [hsz]; have := len_pos hne; omega
  have hb0 : (s[0]'h0) = 45 := at_mark (pre := []) (ds := []) (rest := _) hs 0 rfl h0
  have hE := not_empty h0
  have HD1 : Hid (∀ W, Calls Try.prog 43 #[.string s, .int .i64 1] W fun e w' => e = .returned (.int .i64 (ds.length : Int)) ∧ w' = W) := fun W => digits_any s (Tx.sgn true) ds (47 :: (es ++ [])) hs hd hr (by omega) W
  have tn : ((ds.length : Int) == 0) = false := by rw [beq_eq_false_iff_ne]; have := len_pos hne; omega
  have hx1 : s.extract 1 (1 + ds.length) = ⟨ds.toArray⟩ := by
    exact piece hs _ _ rfl (by simp [Tx.sgn])
  have hi : 1 + ds.length < s.size := by omega
  have hb1 : (s[1 + ds.length]'hi) = 47 := at_mark hs _ (by simp [Tx.sgn]) hi
  have HD2 : Hid (∀ (x : Int), x = 1 + (ds.length : Int) + 1 → ∀ W, Calls Try.prog 43 #[.string s, .int .i64 x] W fun e w' => e = .returned (.int .i64 ((es).length : Int)) ∧ w' = W) := fun x hx W => digits_at s (Tx.sgn true ++ (ds ++ [47])) (es) ([]) x (by rw [hx]; simp [Tx.sgn] <;> omega) (by rw [hs]; simp) he hr2 (by omega) W
  have hI : (s.size : Int) ≤ 4000 := by omega
  have hI2 : 1 + (ds.length : Int) < (s.size : Int) := by omega
  have hx2 : s.extract (1 + ds.length + 1) (1 + ds.length + 1 + es.length) = ⟨es.toArray⟩ := piece (pre := Tx.sgn true ++ (ds ++ [47])) (ds := es) (rest := []) (by rw [hs]; simp) _ _ (by simp [Tx.sgn] <;> omega) (by simp [Tx.sgn] <;> omega)
  have tk : ((es.length : Int) == 0) = false := by rw [beq_eq_false_iff_ne]; have := len_pos hne2; omega
  have hI9 : 1 + (ds.length : Int) + 1 + (es.length : Int) = (s.size : Int) := by omega
  have hI3 : 1 + (ds.length : Int) + 1 + (es.length : Int) ≤ (s.size : Int) := by omega
  have hI6 : (s.size : Int) ≤ 1 + (ds.length : Int) + 1 + (es.length : Int) := by omega
  have hI4 : (ds.length : Int) ≤ 18 := by omega
  have hI5 : (es.length : Int) ≤ 18 := by omega
  obtain ⟨b1, b2⟩ := Tx.num_le ds hd h18
  obtain ⟨b3, b4⟩ := Tx.num_le es he h19
  have HN : Hid (∀ W, Calls Try.prog 44 #[.string ⟨ds.toArray⟩] W fun e w' => e = .returned (.int .i64 (Tx.num ds)) ∧ w' = W) := fun W => number_any ds hd h18 W
  have HM : Hid (∀ W, Calls Try.prog 44 #[.string ⟨es.toArray⟩] W fun e w' => e = .returned (.int .i64 (Tx.num es)) ∧ w' = W) := fun W => number_any es he h19 W
  have tz : (Tx.num es == 0) = false := by rw [beq_eq_false_iff_ne]; exact hz
  clear hsz hs hr hI9
  go_enter Try.func30, Try.ntmps30
  go_wp2_with fail
  refine (HD1.out _).mono ?_
  rintro e w' ⟨rfl, hw⟩
  rw [hw]
  clear hw w'
  go_wp2_with fail
  refine (HD2.out _ (by omega) _).mono ?_
  rintro e w' ⟨rfl, hw⟩
  rw [hw]
  clear hw w'
  go_wp2_with fail
  refine (HM.out _).mono ?_
  rintro e w' ⟨rfl, hw⟩
  rw [hw]
  clear hw w'
  go_wp2_with fail
  refine (HN.out _).mono ?_
  rintro e w' ⟨rfl, hw⟩
  rw [hw]
  clear hw w'
  go_wp2_with fail
  rw [show (-Tx.num ds) = -1 * Tx.num ds by omega]
  refine (told_any (-1 * Tx.num ds) (Tx.num es) _ (by omega) (by omega) (by omega) (by omega) hz).mono ?_
  rintro e w1 ⟨rfl, hb1⟩
  have H1 : Hid (Below w.heap.size w w1) := box_out (hb1.mono (by simp))
  obtain ⟨c0, c1, c2, c3, f0, f1, f2, f3, hz⟩ := box4 (hb1.mono (by simp))
  clear hb1
  go_wp2
  refine bodyPost_ret (v := .agg #[.int .i64 (resC (-1 * Tx.num ds) (Tx.num es)), .int .i64 0, .int .i64 (resN (-1 * Tx.num ds) (Tx.num es)), .int .i64 (resD (-1 * Tx.num ds) (Tx.num es))]) (by simp [results, Try.results30, go_sem, c0, c1, c2, c3]) rfl ⟨rfl, ?_⟩
  have H2 := H1.out
  go_grown
end Go.Proofs.Ytkmbcbjholpfbaa
