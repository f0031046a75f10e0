/- The specification's readers of digits. -/
import Derived.Test.YtkmbcbjholpfbaaText
import Derived.Test.YtkmbcbjholpfbaaLow
import Derived.Test.YtkmbcbjholpfbaaTwos
import Derived.WalkLawsBesides
import Derived.Lib.IndexBytes
import Derived.Handy
namespace Go.Proofs.Ytkmbcbjholpfbaa
open Go.RowKit
theorem byte_at {s : ByteArray} {l : List UInt8} (hs : s.data.toList = l) {k : Nat} (hk : k < l.length) (h : k < s.size) : s[k] = l[k] := by
  subst hs
  obtain ⟨⟨l⟩⟩ := s
  rfl
theorem size_of {s : ByteArray} {l : List UInt8} (hs : s.data.toList = l) : s.size = l.length := by rw [Lib.size_eq, hs]
theorem ext_of {s : ByteArray} {l : List UInt8} (hs : s.data.toList = l) (a b : Nat) : s.extract a b = ⟨((l.drop a).take (b - a)).toArray⟩ := by
  have := Lib.extract_data s a b
  rw [hs] at this
  rw [← this]

theorem box4 {w w1 : World} {a b c d : Value} {t : TypeId} (h : Below (w.heap.size + 1) (w.alloc (.cells #[a, b, c, d] t)) w1) :
    w1.cell? ⟨w.heap.size, 0, none⟩ = some a ∧ w1.cell? ⟨w.heap.size, 1, none⟩ = some b ∧ w1.cell? ⟨w.heap.size, 2, none⟩ = some c ∧ w1.cell? ⟨w.heap.size, 3, none⟩ = some d ∧ w1.frozen? ⟨w.heap.size, 0, none⟩ = false ∧ w1.frozen? ⟨w.heap.size, 1, none⟩ = false ∧ w1.frozen? ⟨w.heap.size, 2, none⟩ = false ∧ w1.frozen? ⟨w.heap.size, 3, none⟩ = false ∧ w.heap.size < w1.heap.size := by
  have c0 := h.cell (p := ⟨w.heap.size, 0, none⟩) (by simp)
  have c1 := h.cell (p := ⟨w.heap.size, 1, none⟩) (by simp)
  have c2 := h.cell (p := ⟨w.heap.size, 2, none⟩) (by simp)
  have c3 := h.cell (p := ⟨w.heap.size, 3, none⟩) (by simp)
  have f0 := h.frozen (p := ⟨w.heap.size, 0, none⟩) (by simp)
  have f1 := h.frozen (p := ⟨w.heap.size, 1, none⟩) (by simp)
  have f2 := h.frozen (p := ⟨w.heap.size, 2, none⟩) (by simp)
  have f3 := h.frozen (p := ⟨w.heap.size, 3, none⟩) (by simp)
  have hs := h.size
  simp at c0 c1 c2 c3 f0 f1 f2 f3 hs
  exact ⟨c0, c1, c2, c3, f0, f1, f2, f3, hs⟩
theorem digit_any (c : Int) (w : World) :
    Calls Try.prog 52 #[.int .u8 c] w fun e w' => e = .returned (.bool (decide (48 ≤ c ∧ c ≤ 57))) ∧ w' = w := by
  by_cases h1 : 48 ≤ c
  · go_enter Try.func52, Try.ntmps52
    go_wp2
    go_ret
    exact ⟨ret_bool (by simp [h1]), rfl⟩
  · go_enter Try.func52, Try.ntmps52
    go_wp2
    go_ret
    exact ⟨ret_bool (by simp; omega), rfl⟩
theorem digit_t (c : Int) (w : World) (h : 48 ≤ c ∧ c ≤ 57) : Calls Try.prog 52 #[.int .u8 c] w fun e w' => e = .returned (.bool true) ∧ w' = w := by
  have := digit_any c w
  rwa [decide_eq_true h] at this
theorem digit_f (c : Int) (w : World) (h : ¬ (48 ≤ c ∧ c ≤ 57)) : Calls Try.prog 52 #[.int .u8 c] w fun e w' => e = .returned (.bool false) ∧ w' = w := by
  have := digit_any c w
  rwa [decide_eq_false h] at this

set_option maxHeartbeats 400000 in
theorem digits_any (s : ByteArray) (pre ds r : List UInt8) (hs : s.data.toList = pre ++ (ds ++ r)) (hd : Tx.AllD ds) (hr : Tx.NoD r) (hm : s.size ≤ 1000000) (w : World) :
    Calls Try.prog 43 #[.string s, .int .i64 (pre.length : Int)] w fun e w' => e = .returned (.int .i64 (ds.length : Int)) ∧ w' = w := by
  have hsz := size_of hs
  simp only [List.length_append] at hsz
  have HS : Hid (s.data.toList = pre ++ (ds ++ r)) := hs
  clear hs
  go_enter Try.func43, Try.ntmps43
  go_wp2
  go_loop [5] (fun n => ∃ k : Nat, k ≤ ds.length ∧ n = .int .i64 k) (fun n => ds.length - (intOf n).toNat)
  case atStart => exact ⟨0, Nat.zero_le _, rfl⟩
  case round =>
    obtain ⟨k, hk, rfl⟩ := hrel
    by_cases hlt : k < ds.length
    · have hi : pre.length + k < s.size := by omega
      have hb : (s[pre.length + k]'hi) = ds[k] := by
        rw [byte_at HS.out (by simp; omega)]
        rw [List.getElem_append_right (by omega), List.getElem_append_left (by omega)]
        congr 1; omega
      have hdk := Tx.isD_t (hd ds[k] (List.getElem_mem hlt))
      have hI : (pre.length : Int) + (k : Int) < (s.size : Int) := by omega
      go_wp2_with (go_at_call 52; refine (digit_t _ _ (by omega)).mono ?_; rintro e w' ⟨rfl, rfl⟩)
      go_round
      case rel => exact ⟨k + 1, by omega, by go_num⟩
      case measure => simp [intOf]; omega
    · have hkd : k = ds.length := by omega
      subst hkd
      match r, hr, hsz, HS with
      | [], _, hsz, HS =>
        simp only [List.length_nil, Nat.add_zero] at hsz
        go_wp2_with fail
        go_ret
        exact ⟨rfl, rfl⟩
      | c :: r, hr, hsz, HS =>
        have hi : pre.length + ds.length < s.size := by simp only [List.length_cons] at hsz; omega
        have hb : (s[pre.length + ds.length]'hi) = c := by
          rw [byte_at HS.out (by simp)]
          rw [List.getElem_append_right (by omega), List.getElem_append_right (by omega)]
          simp
        have hdk := Tx.isD_f (hr c r rfl)
        have hI : (pre.length : Int) + (ds.length : Int) < (s.size : Int) := by omega
        clear hsz
        go_wp2_with (go_at_call 52; refine (digit_f _ _ (by omega)).mono ?_; rintro e w' ⟨rfl, rfl⟩)
        go_ret
        exact ⟨rfl, rfl⟩
set_option maxHeartbeats 400000 in
theorem number_any (ds : List UInt8) (hd : Tx.AllD ds) (hl : ds.length ≤ 18) (w : World) :
    Calls Try.prog 44 #[.string ⟨ds.toArray⟩] w fun e w' => e = .returned (.int .i64 (Tx.num ds)) ∧ w' = w := by
  go_enter Try.func44, Try.ntmps44
  go_wp2
  go_loop [3, 4] (fun n i => ∃ k : Nat, k ≤ ds.length ∧ i = .int .i64 k ∧ n = .int .i64 (Tx.num (ds.take k))) (fun _ i => ds.length - (intOf i).toNat)
  case atStart => exact ⟨0, Nat.zero_le _, rfl, rfl⟩
  case round =>
    obtain ⟨k, hk, rfl, rfl⟩ := hrel
    by_cases hlt : k < ds.length
    · have hbd := Tx.num_lt (ds.take k) (Tx.allD_take hd k) (by rw [List.length_take]; omega)
      have hb : ((⟨ds.toArray⟩ : ByteArray)[k]'hlt) = ds[k] := rfl
      have hdk := Tx.isD_t (hd ds[k] (List.getElem_mem hlt))
      have HN : Hid (Tx.num (ds.take (k + 1)) = Tx.num (ds.take k) * 10 + ((ds[k].toNat : Int) - 48)) := Tx.num_take ds k hlt
      obtain ⟨m, hm⟩ : ∃ m, m = Tx.num (ds.take k) := ⟨_, rfl⟩
      rw [← hm] at hbd HN ⊢
      clear hm
      obtain ⟨h1, h2⟩ := hbd
      go_wp2
      go_round
      case rel => exact ⟨k + 1, by omega, by go_num, by rw [HN.out]⟩
      case measure => simp [intOf]; omega
    · have hkd : k = ds.length := by omega
      subst hkd
      go_wp2
      go_ret
      exact ⟨rfl, rfl⟩
set_option maxHeartbeats 400000 in
theorem textFault_any (c a : Int) (w : World) :
    Calls Try.prog 42 #[.int .i64 c, .int .i64 a] w fun e w' => e = .returned (.agg #[.int .i64 c, .int .i64 a, .int .i64 0, .int .i64 0]) ∧ Below w.heap.size w w' := by
  go_enter Try.func42, Try.ntmps42
  go_wp2
  refine bodyPost_ret (v := .agg #[.int .i64 c, .int .i64 a, .int .i64 0, .int .i64 0]) (by simp [results, Try.results42, go_sem]) rfl ⟨rfl, ?_⟩
  go_grown
set_option maxHeartbeats 400000 in
theorem told_any (n d : Int) (w : World) (h1 : -3000000000000000000 ≤ n) (h2 : n ≤ 3000000000000000000) (h3 : -3000000000000000000 ≤ d) (h4 : d ≤ 3000000000000000000) (h : d ≠ 0) :
    Calls Try.prog 45 #[.int .i64 n, .int .i64 d] w fun e w' => e = .returned (.agg #[.int .i64 (resC n d), .int .i64 0, .int .i64 (resN n d), .int .i64 (resD n d)]) ∧ Below w.heap.size w w' := by
  go_enter Try.func45, Try.ntmps45
  go_wp2_with fail
  refine (slow n d _ h1 h2 h3 h4 h).mono ?_
  rintro e w1 ⟨rfl, hb1⟩
  have H1 : Hid (Below w.heap.size w w1) := box_out (hb1.mono (by simp))
  obtain ⟨c0, c1, c2, c3, f0, f1, f2, f3, hz⟩ := box4 (hb1.mono (by simp))
  clear hb1
  go_wp2
  refine bodyPost_ret (v := .agg #[.int .i64 (resC n d), .int .i64 0, .int .i64 (resN n d), .int .i64 (resD n d)]) (by simp [results, Try.results45, go_sem, hz, c0, c1, c2, c3]) rfl ⟨rfl, ?_⟩
  have H2 := H1.out
  go_grown
end Go.Proofs.Ytkmbcbjholpfbaa
