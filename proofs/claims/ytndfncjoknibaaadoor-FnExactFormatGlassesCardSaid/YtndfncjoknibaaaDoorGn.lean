/- Names of glasses: contracts of both packages' tests. -/
import Derived.Test.YtndfncjoknibaaaDoorGm
import Derived.Lib.IndexBytes
namespace Go.Proofs.YtndfncjoknibaaaDoor
open Go.RowKit Fl
set_option linter.unusedVariables false
set_option maxHeartbeats 800000 in
theorem sName_any (s : ByteArray) (w : World) : Calls Tryd.prog 39 #[.string s] w fun e w' => e = .returned (.bool (nameB s)) ∧ w = w' := by
  by_cases h1 : 1 ≤ s.size
  · by_cases h2 : s.size ≤ 20
    · have hb0 : byteAt s 0 = ((s[0]'(by omega)).toNat : Int) := byteAt_get s 0 (by omega)
      cases h3 : letB (byteAt s 0)
      · have hN : nameB s = false := by unfold nameB; rw [h3]; simp
        rw [hN]
        have HL := sLetter (byteAt s 0)
        rw [h3, hb0] at HL
        have HL' : Hid (∀ w, Calls Tryd.prog 67 #[.int .u8 ((s[0]'(by omega)).toNat : Int)] w fun e w' => e = .returned (.bool false) ∧ w = w') := HL
        clear HL hb0 h3 hN
        go_enter Tryd.func39, Tryd.ntmps39
        go_wp2_with (go_at_call 67; refine (HL'.out _).mono ?_; rintro e w' ⟨rfl, rfl⟩)
        go_ret
        exact ⟨rfl, rfl⟩
      · have HL := sLetter (byteAt s 0)
        rw [h3, hb0] at HL
        have HL' : Hid (∀ w, Calls Tryd.prog 67 #[.int .u8 ((s[0]'(by omega)).toNat : Int)] w fun e w' => e = .returned (.bool true) ∧ w = w') := HL
        have H3 : Hid (letB (byteAt s 0) = true) := h3
        clear HL hb0 h3
        go_enter Tryd.func39, Tryd.ntmps39
        go_wp2_with (go_at_call 67; refine (HL'.out _).mono ?_; rintro e w' ⟨rfl, rfl⟩)
        clear HL'
        go_loop [3] (fun i => ∃ k : Nat, k ≤ s.size ∧ i = .int .i64 k ∧ Hid (∀ j, j < k → okB (byteAt s j) = true)) (fun i => s.size - (intOf i).toNat)
        case atStart => exact ⟨0, Nat.zero_le _, rfl, fun j hj => absurd hj (Nat.not_lt_zero _)⟩
        case round =>
          obtain ⟨k, hk, rfl, HA⟩ := hrel
          by_cases hlt : k < s.size
          · have hI : (k : Int) < (s.size : Int) := by omega
            have hbk := byteAt_get s k hlt
            cases hl : letB (byteAt s k)
            · cases hd : digB (byteAt s k)
              · by_cases h45 : byteAt s k = 45
                · have HL : Hid (∀ w, Calls Tryd.prog 67 #[.int .u8 45] w fun e w' => e = .returned (.bool false) ∧ w = w') := sLetter 45
                  have HD : Hid (∀ w, Calls Tryd.prog 68 #[.int .u8 45] w fun e w' => e = .returned (.bool false) ∧ w = w') := sDigit 45
                  have hk2 : ((s[k]'hlt).toNat : Int) = 45 := by rw [← hbk]; exact h45
                  have HO : Hid (okB (byteAt s k) = true) := (show okB (byteAt s k) = true by unfold okB; rw [h45]; simp)
                  clear hbk hl hd h45
                  go_wp2_with (first | (go_at_call 67; refine (HL.out _).mono ?_; rintro e w' ⟨rfl, rfl⟩) | (go_at_call 68; refine (HD.out _).mono ?_; rintro e w' ⟨rfl, rfl⟩))
                  go_round
                  case rel => exact ⟨k + 1, by omega, by go_num, fun j hj => by by_cases e : j = k; exact (by rw [e]; exact HO.out); exact HA.out j (by omega)⟩
                  case measure => simp [intOf]; omega
                · have HL : Hid (∀ w, Calls Tryd.prog 67 #[.int .u8 ((s[k]'hlt).toNat : Int)] w fun e w' => e = .returned (.bool false) ∧ w = w') := by rw [← hbk, ← hl]; exact sLetter _
                  have HD : Hid (∀ w, Calls Tryd.prog 68 #[.int .u8 ((s[k]'hlt).toNat : Int)] w fun e w' => e = .returned (.bool false) ∧ w = w') := by rw [← hbk, ← hd]; exact sDigit _
                  have hk2 : ¬ ((s[k]'hlt).toNat : Int) = 45 := by rw [← hbk]; exact h45
                  have HN : Hid (nameB s = false) := name_no hlt (by unfold okB; rw [hl, hd]; simp [h45])
                  clear hbk hl hd h45
                  go_wp2_with (first | (go_at_call 67; refine (HL.out _).mono ?_; rintro e w' ⟨rfl, rfl⟩) | (go_at_call 68; refine (HD.out _).mono ?_; rintro e w' ⟨rfl, rfl⟩))
                  go_ret
                  exact ⟨ret_bool HN.out.symm, rfl⟩
              · have HL : Hid (∀ w, Calls Tryd.prog 67 #[.int .u8 ((s[k]'hlt).toNat : Int)] w fun e w' => e = .returned (.bool false) ∧ w = w') := by rw [← hbk, ← hl]; exact sLetter _
                have HD : Hid (∀ w, Calls Tryd.prog 68 #[.int .u8 ((s[k]'hlt).toNat : Int)] w fun e w' => e = .returned (.bool true) ∧ w = w') := by rw [← hbk, ← hd]; exact sDigit _
                have HO : Hid (okB (byteAt s k) = true) := (show okB (byteAt s k) = true by unfold okB; rw [hd]; simp)
                clear hbk hl hd
                go_wp2_with (first | (go_at_call 67; refine (HL.out _).mono ?_; rintro e w' ⟨rfl, rfl⟩) | (go_at_call 68; refine (HD.out _).mono ?_; rintro e w' ⟨rfl, rfl⟩))
                go_round
                case rel => exact ⟨k + 1, by omega, by go_num, fun j hj => by by_cases e : j = k; exact (by rw [e]; exact HO.out); exact HA.out j (by omega)⟩
                case measure => simp [intOf]; omega
            · have HL : Hid (∀ w, Calls Tryd.prog 67 #[.int .u8 ((s[k]'hlt).toNat : Int)] w fun e w' => e = .returned (.bool true) ∧ w = w') := by rw [← hbk, ← hl]; exact sLetter _
              have HO : Hid (okB (byteAt s k) = true) := (show okB (byteAt s k) = true by unfold okB; rw [hl]; simp)
              clear hbk hl
              go_wp2_with (first | (go_at_call 67; refine (HL.out _).mono ?_; rintro e w' ⟨rfl, rfl⟩))
              go_round
              case rel => exact ⟨k + 1, by omega, by go_num, fun j hj => by by_cases e : j = k; exact (by rw [e]; exact HO.out); exact HA.out j (by omega)⟩
              case measure => simp [intOf]; omega
          · obtain rfl : k = s.size := by omega
            have HN : Hid (nameB s = true) := name_yes h1 h2 H3.out HA.out
            go_wp2
            go_ret
            exact ⟨ret_bool HN.out.symm, rfl⟩
    · have hN : nameB s = false := by unfold nameB; simp [h2]
      rw [hN]
      clear hN
      have h2' : (20 : Int) < s.size := by omega
      go_enter Tryd.func39, Tryd.ntmps39
      go_wp2_with fail
      go_ret
      exact ⟨rfl, rfl⟩
  · have hN : nameB s = false := by unfold nameB; simp [h1]
    rw [hN]
    clear hN
    have h1' : (s.size : Int) < 1 := by omega
    go_enter Tryd.func39, Tryd.ntmps39
    go_wp2_with fail
    go_ret
    exact ⟨rfl, rfl⟩
set_option maxHeartbeats 800000 in
theorem iName_any (s : ByteArray) (w : World) : Calls Tryd.prog 43 #[.string s] w fun e w' => e = .returned (.bool (nameB s)) ∧ w = w' := by
  by_cases h1 : 1 ≤ s.size
  · by_cases h2 : s.size ≤ 20
    · have hb0 : byteAt s 0 = ((s[0]'(by omega)).toNat : Int) := byteAt_get s 0 (by omega)
      cases h3 : letB (byteAt s 0)
      · have hN : nameB s = false := by unfold nameB; rw [h3]; simp
        rw [hN]
        have HL := iLetter (byteAt s 0)
        rw [h3, hb0] at HL
        have HL' : Hid (∀ w, Calls Tryd.prog 69 #[.int .u8 ((s[0]'(by omega)).toNat : Int)] w fun e w' => e = .returned (.bool false) ∧ w = w') := HL
        clear HL hb0 h3 hN
        go_enter Tryd.func43, Tryd.ntmps43
        go_wp2_with (go_at_call 69; refine (HL'.out _).mono ?_; rintro e w' ⟨rfl, rfl⟩)
        go_ret
        exact ⟨rfl, rfl⟩
      · have HL := iLetter (byteAt s 0)
        rw [h3, hb0] at HL
        have HL' : Hid (∀ w, Calls Tryd.prog 69 #[.int .u8 ((s[0]'(by omega)).toNat : Int)] w fun e w' => e = .returned (.bool true) ∧ w = w') := HL
        have H3 : Hid (letB (byteAt s 0) = true) := h3
        clear HL hb0 h3
        go_enter Tryd.func43, Tryd.ntmps43
        go_wp2_with (go_at_call 69; refine (HL'.out _).mono ?_; rintro e w' ⟨rfl, rfl⟩)
        clear HL'
        go_loop [21] (fun i => ∃ k : Nat, k ≤ s.size ∧ i = .int .i64 k ∧ Hid (∀ j, j < k → okB (byteAt s j) = true)) (fun i => s.size - (intOf i).toNat)
        case atStart => exact ⟨0, Nat.zero_le _, rfl, fun j hj => absurd hj (Nat.not_lt_zero _)⟩
        case round =>
          obtain ⟨k, hk, rfl, HA⟩ := hrel
          by_cases hlt : k < s.size
          · have hI : (k : Int) < (s.size : Int) := by omega
            have hbk := byteAt_get s k hlt
            cases hl : letB (byteAt s k)
            · cases hd : digB (byteAt s k)
              · by_cases h45 : byteAt s k = 45
                · have HL : Hid (∀ w, Calls Tryd.prog 69 #[.int .u8 45] w fun e w' => e = .returned (.bool false) ∧ w = w') := iLetter 45
                  have HD : Hid (∀ w, Calls Tryd.prog 70 #[.int .u8 45] w fun e w' => e = .returned (.bool false) ∧ w = w') := iDigit 45
                  have hk2 : ((s[k]'hlt).toNat : Int) = 45 := by rw [← hbk]; exact h45
                  have HO : Hid (okB (byteAt s k) = true) := (show okB (byteAt s k) = true by unfold okB; rw [h45]; simp)
                  clear hbk hl hd h45
                  go_wp2_with (first | (go_at_call 69; refine (HL.out _).mono ?_; rintro e w' ⟨rfl, rfl⟩) | (go_at_call 70; refine (HD.out _).mono ?_; rintro e w' ⟨rfl, rfl⟩))
                  go_round
                  case rel => exact ⟨k + 1, by omega, by go_num, fun j hj => by by_cases e : j = k; exact (by rw [e]; exact HO.out); exact HA.out j (by omega)⟩
                  case measure => simp [intOf]; omega
                · have HL : Hid (∀ w, Calls Tryd.prog 69 #[.int .u8 ((s[k]'hlt).toNat : Int)] w fun e w' => e = .returned (.bool false) ∧ w = w') := by rw [← hbk, ← hl]; exact iLetter _
                  have HD : Hid (∀ w, Calls Tryd.prog 70 #[.int .u8 ((s[k]'hlt).toNat : Int)] w fun e w' => e = .returned (.bool false) ∧ w = w') := by rw [← hbk, ← hd]; exact iDigit _
                  have hk2 : ¬ ((s[k]'hlt).toNat : Int) = 45 := by rw [← hbk]; exact h45
                  have HN : Hid (nameB s = false) := name_no hlt (by unfold okB; rw [hl, hd]; simp [h45])
                  clear hbk hl hd h45
                  go_wp2_with (first | (go_at_call 69; refine (HL.out _).mono ?_; rintro e w' ⟨rfl, rfl⟩) | (go_at_call 70; refine (HD.out _).mono ?_; rintro e w' ⟨rfl, rfl⟩))
                  go_ret
                  exact ⟨ret_bool HN.out.symm, rfl⟩
              · have HL : Hid (∀ w, Calls Tryd.prog 69 #[.int .u8 ((s[k]'hlt).toNat : Int)] w fun e w' => e = .returned (.bool false) ∧ w = w') := by rw [← hbk, ← hl]; exact iLetter _
                have HD : Hid (∀ w, Calls Tryd.prog 70 #[.int .u8 ((s[k]'hlt).toNat : Int)] w fun e w' => e = .returned (.bool true) ∧ w = w') := by rw [← hbk, ← hd]; exact iDigit _
                have HO : Hid (okB (byteAt s k) = true) := (show okB (byteAt s k) = true by unfold okB; rw [hd]; simp)
                clear hbk hl hd
                go_wp2_with (first | (go_at_call 69; refine (HL.out _).mono ?_; rintro e w' ⟨rfl, rfl⟩) | (go_at_call 70; refine (HD.out _).mono ?_; rintro e w' ⟨rfl, rfl⟩))
                go_round
                case rel => exact ⟨k + 1, by omega, by go_num, fun j hj => by by_cases e : j = k; exact (by rw [e]; exact HO.out); exact HA.out j (by omega)⟩
                case measure => simp [intOf]; omega
            · have HL : Hid (∀ w, Calls Tryd.prog 69 #[.int .u8 ((s[k]'hlt).toNat : Int)] w fun e w' => e = .returned (.bool true) ∧ w = w') := by rw [← hbk, ← hl]; exact iLetter _
              have HO : Hid (okB (byteAt s k) = true) := (show okB (byteAt s k) = true by unfold okB; rw [hl]; simp)
              clear hbk hl
              go_wp2_with (first | (go_at_call 69; refine (HL.out _).mono ?_; rintro e w' ⟨rfl, rfl⟩))
              go_round
              case rel => exact ⟨k + 1, by omega, by go_num, fun j hj => by by_cases e : j = k; exact (by rw [e]; exact HO.out); exact HA.out j (by omega)⟩
              case measure => simp [intOf]; omega
          · obtain rfl : k = s.size := by omega
            have HN : Hid (nameB s = true) := name_yes h1 h2 H3.out HA.out
            go_wp2
            go_ret
            exact ⟨ret_bool HN.out.symm, rfl⟩
    · have hN : nameB s = false := by unfold nameB; simp [h2]
      rw [hN]
      clear hN
      have h2' : (20 : Int) < s.size := by omega
      go_enter Tryd.func43, Tryd.ntmps43
      go_wp2_with fail
      go_ret
      exact ⟨rfl, rfl⟩
  · have hN : nameB s = false := by unfold nameB; simp [h1]
    rw [hN]
    clear hN
    have h1' : (s.size : Int) < 1 := by omega
    go_enter Tryd.func43, Tryd.ntmps43
    go_wp2_with fail
    go_ret
    exact ⟨rfl, rfl⟩
end Go.Proofs.YtndfncjoknibaaaDoor
