/- Interleave and Weave, of both packages. -/
import Derived.Test.YtdknclkecbdpgaaDoorWx
namespace Go.Proofs.YtdknclkecbdpgaaDoor
open Go.RowKit
set_option linter.unusedVariables false
set_option linter.unusedSimpArgs false
set_option maxRecDepth 20000 in
set_option maxHeartbeats 3200000 in
theorem iInt_bad {w : World} {v : Value} {n : Nat} {F : Nat → Int} (h : RdB w v n F) (hm : n ≤ 1000000000000) (m : Int) (hc : widc n m ≠ 0) (hE : Et w) :
    FB 5 54 #[v, .int .i64 m] w (widc n m) 0 (cF F) := by
  unfold FB
  obtain ⟨ao, cap, rfl⟩ := h.form
  obtain ⟨c, hcc⟩ : ∃ c, c = widc n m := ⟨_, rfl⟩
  rw [← hcc] at hc ⊢
  have H : Hid (RdB w (.slice ao n cap) n F) := h
  have HS : Hid (∀ W, RdB W (.slice ao n cap) n F → Calls Tryd.prog 108 #[.slice ao n cap, .int .i64 m] W fun e w' => e = .returned (er c) ∧ w' = W) := fun W hW => by rw [hcc]; exact iWidth_any _ _ _ hm _ _
  have HE : Hid (Et w) := hE
  have hcb : (c != 0) = true := by simp [hc]
  obtain ⟨w0, hw0⟩ : ∃ W, W = w.alloc (.cells #[.int .i64 0, .slice none 0 0] 47) := ⟨_, rfl⟩
  have H0 : Hid (Blk w0 w.heap.size #[.int .i64 0, .slice none 0 0] 47 ∧ Below w.heap.size w w0) := by rw [hw0]; exact ⟨Blk.new rfl, (Below.refl _ _).alloc (Nat.le_refl _) _⟩
  clear h hcc hc hE
  go_enter Tryd.func54, Tryd.ntmps54
  go_wp2_with fail
  rw [← hw0]
  refine Calls.mono (HS.out _ (H.out.later H0.out.2)) ?_
  rintro e wa ⟨rfl, rfl⟩
  clear hw0
  go_wp2_with fail
  refine Calls.mono (code_any c _ (HE.out.later H0.out.2)) ?_
  rintro e w1 ⟨rfl, hb⟩
  have H1 : Hid (Blk w1 w.heap.size #[.int .i64 0, .slice none 0 0] 47 ∧ Below w.heap.size w w1) := ⟨H0.out.1.later hb, H0.out.2.trans (hb.mono H0.out.2.size)⟩
  clear hb H0 HS HE
  have c0 := H1.out.1.cell (j := 0) (v := .int .i64 0) rfl
  have c1 := H1.out.1.cell (j := 1) (v := .slice none 0 0) rfl
  have f0 := H1.out.1.frozen 0
  have f1 := H1.out.1.frozen 1
  go_wp2
  refine bodyPost_ret (v := .agg #[.int .i64 c, .slice none 0 0]) (by simp [results, Tryd.results54, go_sem, c0, c1]) rfl ⟨_, rfl, Or.inl ⟨rfl, rfl⟩, (H1.out.2.setCell (by simp) _).setCell (by simp) _⟩
set_option maxRecDepth 20000 in
set_option maxHeartbeats 3200000 in
theorem iInt_ok {w : World} {v : Value} {n d e : Nat} {F : Nat → Int} (h : RdB w v n F) (hn : n ≤ 100000) (hd1 : 1 ≤ d) (hd2 : d ≤ 1000) (hde : n = d * e) (hc : widc n (d : Int) = 0) (hE : Et w) :
    FB 5 54 #[v, .int .i64 (d : Int)] w 0 n (cF (crs F d e)) := by
  unfold FB
  obtain ⟨ao, cap, rfl⟩ := h.form
  have H : Hid (RdB w (.slice ao n cap) n F) := h
  have HS : Hid (∀ W, RdB W (.slice ao n cap) n F → Calls Tryd.prog 108 #[.slice ao n cap, .int .i64 (d : Int)] W fun e w' => e = .returned (er 0) ∧ w' = W) := fun W hW => by rw [← hc]; exact iWidth_any _ _ _ (by omega) _ _
  have HE : Hid (Et w) := hE
  have he : e ≤ 100000 := by
    have := Nat.mul_le_mul_right e hd1
    omega
  have HX : Hid (∀ W, RdB W (.slice ao n cap) n F → Calls Tryd.prog 109 #[.slice ao n cap, .int .i64 (d : Int)] W fun en w' => ∃ v', en = .returned v' ∧ OwS 5 W.heap.size w'.heap.size w' v' n (cF (crs F d e)) ∧ Below W.heap.size W w') := fun W hW => by
    have e1 : n = d * e := hde
    rw [e1] at hW ⊢
    exact iCross_any hW (by omega) (by omega)
  obtain ⟨w0, hw0⟩ : ∃ W, W = w.alloc (.cells #[.int .i64 0, .slice none 0 0] 47) := ⟨_, rfl⟩
  have H0 : Hid (Blk w0 w.heap.size #[.int .i64 0, .slice none 0 0] 47 ∧ Below w.heap.size w w0) := by rw [hw0]; exact ⟨Blk.new rfl, (Below.refl _ _).alloc (Nat.le_refl _) _⟩
  clear h hc hde hE
  go_enter Tryd.func54, Tryd.ntmps54
  go_wp2_with fail
  rw [← hw0]
  refine Calls.mono (HS.out _ (H.out.later H0.out.2)) ?_
  rintro e wa ⟨rfl, rfl⟩
  clear hw0
  go_wp2_with fail
  refine Calls.mono (code_any 0 _ (HE.out.later H0.out.2)) ?_
  rintro e w1 ⟨rfl, hb⟩
  have H1 : Hid (Blk w1 w.heap.size #[.int .i64 0, .slice none 0 0] 47 ∧ Below w.heap.size w w1) := ⟨H0.out.1.later hb, H0.out.2.trans (hb.mono H0.out.2.size)⟩
  clear hb H0 HS HE
  go_wp2_with fail
  refine Calls.mono (HX.out _ (H.out.later H1.out.2)) ?_
  rintro en w2 ⟨v2, rfl, ho, hb⟩
  obtain ⟨ao2, cap2, rfl⟩ := ho.form
  have H2 : Hid (Blk w2 w.heap.size #[.int .i64 0, .slice none 0 0] 47 ∧ Below w.heap.size w w2 ∧ OwS 5 w1.heap.size w2.heap.size w2 (.slice ao2 n cap2) n (cF (crs F d e)) ∧ w.heap.size < w1.heap.size) := ⟨H1.out.1.later hb, H1.out.2.trans (hb.mono H1.out.2.size), ho, H1.out.1.lt⟩
  clear hb ho H1 HX
  have c0 := H2.out.1.cell (j := 0) (v := .int .i64 0) rfl
  have c1 := H2.out.1.cell (j := 1) (v := .slice none 0 0) rfl
  have f0 := H2.out.1.frozen 0
  have f1 := H2.out.1.frozen 1
  go_wp2
  obtain ⟨h1, h2, h3, h4⟩ := H2.out
  refine bodyPost_ret (v := .agg #[.int .i64 0, .slice ao2 n cap2]) (by simp [results, Tryd.results54, go_sem, c0, c1]) rfl ⟨_, rfl, ?_, (h2.setCell (by simp) _).setCell (by simp) _⟩
  rcases h3 with ⟨e1, e2⟩ | ⟨g, cp, e1, q1, q2, q3⟩
  · exact Or.inl ⟨e1, e2⟩
  · exact Or.inr ⟨g, cp, e1, by omega, by simpa using q2, (q3.setOther (by simp; omega) _).setOther (by simp; omega) _⟩
set_option maxRecDepth 20000 in
set_option maxHeartbeats 3200000 in
theorem sInt_bad {w : World} {v : Value} {n : Nat} {F : Nat → Int} (h : RdB w v n F) (hm : n ≤ 1000000000000) (m : Int) (hc : widc n m ≠ 0) :
    FB 5 53 #[v, .int .i64 m] w (widc n m) 0 (cF F) := by
  unfold FB
  obtain ⟨ao, cap, rfl⟩ := h.form
  obtain ⟨c, hcc⟩ : ∃ c, c = widc n m := ⟨_, rfl⟩
  rw [← hcc] at hc ⊢
  have H : Hid (RdB w (.slice ao n cap) n F) := h
  have HS : Hid (∀ W, RdB W (.slice ao n cap) n F → Calls Tryd.prog 106 #[.slice ao n cap, .int .i64 m] W fun e w' => e = .returned (.int .i64 c) ∧ w' = W) := fun W hW => by rw [hcc]; exact sWidth_any _ _ _ hm _ _

  have hcb : (c != 0) = true := by simp [hc]
  obtain ⟨w0, hw0⟩ : ∃ W, W = w.alloc (.cells #[.int .i64 0, .slice none 0 0] 47) := ⟨_, rfl⟩
  have H0 : Hid (Blk w0 w.heap.size #[.int .i64 0, .slice none 0 0] 47 ∧ Below w.heap.size w w0) := by rw [hw0]; exact ⟨Blk.new rfl, (Below.refl _ _).alloc (Nat.le_refl _) _⟩
  clear h hcc hc
  go_enter Tryd.func53, Tryd.ntmps53
  go_wp2_with fail
  rw [← hw0]
  refine Calls.mono (HS.out _ (H.out.later H0.out.2)) ?_
  rintro e w1 ⟨rfl, rfl⟩
  have H1 : Hid (Blk w1 w.heap.size #[.int .i64 0, .slice none 0 0] 47 ∧ Below w.heap.size w w1) := H0.out
  clear hw0 H0 HS
  have c0 := H1.out.1.cell (j := 0) (v := .int .i64 0) rfl
  have c1 := H1.out.1.cell (j := 1) (v := .slice none 0 0) rfl
  have f0 := H1.out.1.frozen 0
  have f1 := H1.out.1.frozen 1
  go_wp2
  refine bodyPost_ret (v := .agg #[.int .i64 c, .slice none 0 0]) (by simp [results, Tryd.results53, go_sem, c0, c1]) rfl ⟨_, rfl, Or.inl ⟨rfl, rfl⟩, (H1.out.2.setCell (by simp) _).setCell (by simp) _⟩
set_option maxRecDepth 20000 in
set_option maxHeartbeats 3200000 in
theorem sInt_ok {w : World} {v : Value} {n d e : Nat} {F : Nat → Int} (h : RdB w v n F) (hn : n ≤ 100000) (hd1 : 1 ≤ d) (hd2 : d ≤ 1000) (hde : n = d * e) (hc : widc n (d : Int) = 0) :
    FB 5 53 #[v, .int .i64 (d : Int)] w 0 n (cF (crs F d e)) := by
  unfold FB
  obtain ⟨ao, cap, rfl⟩ := h.form
  have H : Hid (RdB w (.slice ao n cap) n F) := h
  have HS : Hid (∀ W, RdB W (.slice ao n cap) n F → Calls Tryd.prog 106 #[.slice ao n cap, .int .i64 (d : Int)] W fun e w' => e = .returned (.int .i64 0) ∧ w' = W) := fun W hW => by rw [← hc]; exact sWidth_any _ _ _ (by omega) _ _

  have he : e ≤ 100000 := by
    have := Nat.mul_le_mul_right e hd1
    omega
  have HX : Hid (∀ W, RdB W (.slice ao n cap) n F → Calls Tryd.prog 107 #[.slice ao n cap, .int .i64 (d : Int)] W fun en w' => ∃ v', en = .returned v' ∧ OwS 5 W.heap.size w'.heap.size w' v' n (cF (crs F d e)) ∧ Below W.heap.size W w') := fun W hW => by
    have e1 : n = d * e := hde
    rw [e1] at hW ⊢
    exact sCross_any hW (by omega) (by omega)
  obtain ⟨w0, hw0⟩ : ∃ W, W = w.alloc (.cells #[.int .i64 0, .slice none 0 0] 47) := ⟨_, rfl⟩
  have H0 : Hid (Blk w0 w.heap.size #[.int .i64 0, .slice none 0 0] 47 ∧ Below w.heap.size w w0) := by rw [hw0]; exact ⟨Blk.new rfl, (Below.refl _ _).alloc (Nat.le_refl _) _⟩
  clear h hc hde
  go_enter Tryd.func53, Tryd.ntmps53
  go_wp2_with fail
  rw [← hw0]
  refine Calls.mono (HS.out _ (H.out.later H0.out.2)) ?_
  rintro e w1 ⟨rfl, rfl⟩
  have H1 : Hid (Blk w1 w.heap.size #[.int .i64 0, .slice none 0 0] 47 ∧ Below w.heap.size w w1) := H0.out
  clear hw0 H0 HS
  go_wp2_with fail
  refine Calls.mono (HX.out _ (H.out.later H1.out.2)) ?_
  rintro en w2 ⟨v2, rfl, ho, hb⟩
  obtain ⟨ao2, cap2, rfl⟩ := ho.form
  have H2 : Hid (Blk w2 w.heap.size #[.int .i64 0, .slice none 0 0] 47 ∧ Below w.heap.size w w2 ∧ OwS 5 w1.heap.size w2.heap.size w2 (.slice ao2 n cap2) n (cF (crs F d e)) ∧ w.heap.size < w1.heap.size) := ⟨H1.out.1.later hb, H1.out.2.trans (hb.mono H1.out.2.size), ho, H1.out.1.lt⟩
  clear hb ho H1 HX
  have c0 := H2.out.1.cell (j := 0) (v := .int .i64 0) rfl
  have c1 := H2.out.1.cell (j := 1) (v := .slice none 0 0) rfl
  have f0 := H2.out.1.frozen 0
  have f1 := H2.out.1.frozen 1
  go_wp2
  obtain ⟨h1, h2, h3, h4⟩ := H2.out
  refine bodyPost_ret (v := .agg #[.int .i64 0, .slice ao2 n cap2]) (by simp [results, Tryd.results53, go_sem, c0, c1]) rfl ⟨_, rfl, ?_, (h2.setCell (by simp) _).setCell (by simp) _⟩
  rcases h3 with ⟨e1, e2⟩ | ⟨g, cp, e1, q1, q2, q3⟩
  · exact Or.inl ⟨e1, e2⟩
  · exact Or.inr ⟨g, cp, e1, by omega, by simpa using q2, (q3.setOther (by simp; omega) _).setOther (by simp; omega) _⟩
set_option maxRecDepth 20000 in
set_option maxHeartbeats 3200000 in
theorem iWea_bad {w : World} {v : Value} {n : Nat} {F : Nat → Int} (h : RdB w v n F) (hm : n ≤ 1000000000000) (m : Int) (hc : widc n m ≠ 0) (hE : Et w) :
    FB 5 56 #[v, .int .i64 m] w (widc n m) 0 (cF F) := by
  unfold FB
  obtain ⟨ao, cap, rfl⟩ := h.form
  obtain ⟨c, hcc⟩ : ∃ c, c = widc n m := ⟨_, rfl⟩
  rw [← hcc] at hc ⊢
  have H : Hid (RdB w (.slice ao n cap) n F) := h
  have HS : Hid (∀ W, RdB W (.slice ao n cap) n F → Calls Tryd.prog 108 #[.slice ao n cap, .int .i64 m] W fun e w' => e = .returned (er c) ∧ w' = W) := fun W hW => by rw [hcc]; exact iWidth_any _ _ _ hm _ _
  have HE : Hid (Et w) := hE
  have hcb : (c != 0) = true := by simp [hc]
  obtain ⟨w0, hw0⟩ : ∃ W, W = w.alloc (.cells #[.int .i64 0, .slice none 0 0] 47) := ⟨_, rfl⟩
  have H0 : Hid (Blk w0 w.heap.size #[.int .i64 0, .slice none 0 0] 47 ∧ Below w.heap.size w w0) := by rw [hw0]; exact ⟨Blk.new rfl, (Below.refl _ _).alloc (Nat.le_refl _) _⟩
  clear h hcc hc hE
  go_enter Tryd.func56, Tryd.ntmps56
  go_wp2_with fail
  rw [← hw0]
  refine Calls.mono (HS.out _ (H.out.later H0.out.2)) ?_
  rintro e wa ⟨rfl, rfl⟩
  clear hw0
  go_wp2_with fail
  refine Calls.mono (code_any c _ (HE.out.later H0.out.2)) ?_
  rintro e w1 ⟨rfl, hb⟩
  have H1 : Hid (Blk w1 w.heap.size #[.int .i64 0, .slice none 0 0] 47 ∧ Below w.heap.size w w1) := ⟨H0.out.1.later hb, H0.out.2.trans (hb.mono H0.out.2.size)⟩
  clear hb H0 HS HE
  have c0 := H1.out.1.cell (j := 0) (v := .int .i64 0) rfl
  have c1 := H1.out.1.cell (j := 1) (v := .slice none 0 0) rfl
  have f0 := H1.out.1.frozen 0
  have f1 := H1.out.1.frozen 1
  go_wp2
  refine bodyPost_ret (v := .agg #[.int .i64 c, .slice none 0 0]) (by simp [results, Tryd.results56, go_sem, c0, c1]) rfl ⟨_, rfl, Or.inl ⟨rfl, rfl⟩, (H1.out.2.setCell (by simp) _).setCell (by simp) _⟩
set_option maxRecDepth 20000 in
set_option maxHeartbeats 3200000 in
theorem iWea_ok {w : World} {v : Value} {n d e : Nat} {F : Nat → Int} (h : RdB w v n F) (hn : n ≤ 100000) (hd1 : 1 ≤ d) (hd2 : d ≤ 1000) (hde : n = d * e) (hc : widc n (d : Int) = 0) (hE : Et w) :
    FB 5 56 #[v, .int .i64 (d : Int)] w 0 n (cF (crs F e d)) := by
  unfold FB
  obtain ⟨ao, cap, rfl⟩ := h.form
  have H : Hid (RdB w (.slice ao n cap) n F) := h
  have HS : Hid (∀ W, RdB W (.slice ao n cap) n F → Calls Tryd.prog 108 #[.slice ao n cap, .int .i64 (d : Int)] W fun e w' => e = .returned (er 0) ∧ w' = W) := fun W hW => by rw [← hc]; exact iWidth_any _ _ _ (by omega) _ _
  have HE : Hid (Et w) := hE
  have he : e ≤ 100000 := by
    have := Nat.mul_le_mul_right e hd1
    omega
  have HX : Hid (∀ W, RdB W (.slice ao n cap) n F → Calls Tryd.prog 109 #[.slice ao n cap, .int .i64 (e : Int)] W fun en w' => ∃ v', en = .returned v' ∧ OwS 5 W.heap.size w'.heap.size w' v' n (cF (crs F e d)) ∧ Below W.heap.size W w') := fun W hW => by
    have e1 : n = e * d := by rw [hde, Nat.mul_comm]
    rw [e1] at hW ⊢
    exact iCross_any hW (by omega) (by omega)
  have hq : (n : Int).tdiv (d : Int) = (e : Int) := by rw [hde, Int.natCast_mul, Int.mul_tdiv_cancel_left _ (by omega)]
  have hq2 : (n : Int) / (d : Int) = (e : Int) := by rw [hde, Int.natCast_mul, Int.mul_ediv_cancel_left _ (by omega)]
  have hd0 : (d : Int) ≠ 0 := by omega
  have hw1 : wrap64 (e : Int) = e := by unfold wrap64; omega
  obtain ⟨w0, hw0⟩ : ∃ W, W = w.alloc (.cells #[.int .i64 0, .slice none 0 0] 47) := ⟨_, rfl⟩
  have H0 : Hid (Blk w0 w.heap.size #[.int .i64 0, .slice none 0 0] 47 ∧ Below w.heap.size w w0) := by rw [hw0]; exact ⟨Blk.new rfl, (Below.refl _ _).alloc (Nat.le_refl _) _⟩
  clear h hc hde hE
  go_enter Tryd.func56, Tryd.ntmps56
  go_wp2_with fail
  rw [← hw0]
  refine Calls.mono (HS.out _ (H.out.later H0.out.2)) ?_
  rintro e wa ⟨rfl, rfl⟩
  clear hw0
  go_wp2_with fail
  refine Calls.mono (code_any 0 _ (HE.out.later H0.out.2)) ?_
  rintro e w1 ⟨rfl, hb⟩
  have H1 : Hid (Blk w1 w.heap.size #[.int .i64 0, .slice none 0 0] 47 ∧ Below w.heap.size w w1) := ⟨H0.out.1.later hb, H0.out.2.trans (hb.mono H0.out.2.size)⟩
  clear hb H0 HS HE
  go_wp2_with fail
  refine Calls.mono (HX.out _ (H.out.later H1.out.2)) ?_
  rintro en w2 ⟨v2, rfl, ho, hb⟩
  obtain ⟨ao2, cap2, rfl⟩ := ho.form
  have H2 : Hid (Blk w2 w.heap.size #[.int .i64 0, .slice none 0 0] 47 ∧ Below w.heap.size w w2 ∧ OwS 5 w1.heap.size w2.heap.size w2 (.slice ao2 n cap2) n (cF (crs F e d)) ∧ w.heap.size < w1.heap.size) := ⟨H1.out.1.later hb, H1.out.2.trans (hb.mono H1.out.2.size), ho, H1.out.1.lt⟩
  clear hb ho H1 HX
  have c0 := H2.out.1.cell (j := 0) (v := .int .i64 0) rfl
  have c1 := H2.out.1.cell (j := 1) (v := .slice none 0 0) rfl
  have f0 := H2.out.1.frozen 0
  have f1 := H2.out.1.frozen 1
  go_wp2
  obtain ⟨h1, h2, h3, h4⟩ := H2.out
  refine bodyPost_ret (v := .agg #[.int .i64 0, .slice ao2 n cap2]) (by simp [results, Tryd.results56, go_sem, c0, c1]) rfl ⟨_, rfl, ?_, (h2.setCell (by simp) _).setCell (by simp) _⟩
  rcases h3 with ⟨e1, e2⟩ | ⟨g, cp, e1, q1, q2, q3⟩
  · exact Or.inl ⟨e1, e2⟩
  · exact Or.inr ⟨g, cp, e1, by omega, by simpa using q2, (q3.setOther (by simp; omega) _).setOther (by simp; omega) _⟩
set_option maxRecDepth 20000 in
set_option maxHeartbeats 3200000 in
theorem sWea_bad {w : World} {v : Value} {n : Nat} {F : Nat → Int} (h : RdB w v n F) (hm : n ≤ 1000000000000) (m : Int) (hc : widc n m ≠ 0) :
    FB 5 55 #[v, .int .i64 m] w (widc n m) 0 (cF F) := by
  unfold FB
  obtain ⟨ao, cap, rfl⟩ := h.form
  obtain ⟨c, hcc⟩ : ∃ c, c = widc n m := ⟨_, rfl⟩
  rw [← hcc] at hc ⊢
  have H : Hid (RdB w (.slice ao n cap) n F) := h
  have HS : Hid (∀ W, RdB W (.slice ao n cap) n F → Calls Tryd.prog 106 #[.slice ao n cap, .int .i64 m] W fun e w' => e = .returned (.int .i64 c) ∧ w' = W) := fun W hW => by rw [hcc]; exact sWidth_any _ _ _ hm _ _

  have hcb : (c != 0) = true := by simp [hc]
  obtain ⟨w0, hw0⟩ : ∃ W, W = w.alloc (.cells #[.int .i64 0, .slice none 0 0] 47) := ⟨_, rfl⟩
  have H0 : Hid (Blk w0 w.heap.size #[.int .i64 0, .slice none 0 0] 47 ∧ Below w.heap.size w w0) := by rw [hw0]; exact ⟨Blk.new rfl, (Below.refl _ _).alloc (Nat.le_refl _) _⟩
  clear h hcc hc
  go_enter Tryd.func55, Tryd.ntmps55
  go_wp2_with fail
  rw [← hw0]
  refine Calls.mono (HS.out _ (H.out.later H0.out.2)) ?_
  rintro e w1 ⟨rfl, rfl⟩
  have H1 : Hid (Blk w1 w.heap.size #[.int .i64 0, .slice none 0 0] 47 ∧ Below w.heap.size w w1) := H0.out
  clear hw0 H0 HS
  have c0 := H1.out.1.cell (j := 0) (v := .int .i64 0) rfl
  have c1 := H1.out.1.cell (j := 1) (v := .slice none 0 0) rfl
  have f0 := H1.out.1.frozen 0
  have f1 := H1.out.1.frozen 1
  go_wp2
  refine bodyPost_ret (v := .agg #[.int .i64 c, .slice none 0 0]) (by simp [results, Tryd.results55, go_sem, c0, c1]) rfl ⟨_, rfl, Or.inl ⟨rfl, rfl⟩, (H1.out.2.setCell (by simp) _).setCell (by simp) _⟩
set_option maxRecDepth 20000 in
set_option maxHeartbeats 3200000 in
theorem sWea_ok {w : World} {v : Value} {n d e : Nat} {F : Nat → Int} (h : RdB w v n F) (hn : n ≤ 100000) (hd1 : 1 ≤ d) (hd2 : d ≤ 1000) (hde : n = d * e) (hc : widc n (d : Int) = 0) :
    FB 5 55 #[v, .int .i64 (d : Int)] w 0 n (cF (crs F e d)) := by
  unfold FB
  obtain ⟨ao, cap, rfl⟩ := h.form
  have H : Hid (RdB w (.slice ao n cap) n F) := h
  have HS : Hid (∀ W, RdB W (.slice ao n cap) n F → Calls Tryd.prog 106 #[.slice ao n cap, .int .i64 (d : Int)] W fun e w' => e = .returned (.int .i64 0) ∧ w' = W) := fun W hW => by rw [← hc]; exact sWidth_any _ _ _ (by omega) _ _

  have he : e ≤ 100000 := by
    have := Nat.mul_le_mul_right e hd1
    omega
  have HX : Hid (∀ W, RdB W (.slice ao n cap) n F → Calls Tryd.prog 107 #[.slice ao n cap, .int .i64 (e : Int)] W fun en w' => ∃ v', en = .returned v' ∧ OwS 5 W.heap.size w'.heap.size w' v' n (cF (crs F e d)) ∧ Below W.heap.size W w') := fun W hW => by
    have e1 : n = e * d := by rw [hde, Nat.mul_comm]
    rw [e1] at hW ⊢
    exact sCross_any hW (by omega) (by omega)
  have hq : (n : Int).tdiv (d : Int) = (e : Int) := by rw [hde, Int.natCast_mul, Int.mul_tdiv_cancel_left _ (by omega)]
  have hq2 : (n : Int) / (d : Int) = (e : Int) := by rw [hde, Int.natCast_mul, Int.mul_ediv_cancel_left _ (by omega)]
  have hd0 : (d : Int) ≠ 0 := by omega
  have hw1 : wrap64 (e : Int) = e := by unfold wrap64; omega
  obtain ⟨w0, hw0⟩ : ∃ W, W = w.alloc (.cells #[.int .i64 0, .slice none 0 0] 47) := ⟨_, rfl⟩
  have H0 : Hid (Blk w0 w.heap.size #[.int .i64 0, .slice none 0 0] 47 ∧ Below w.heap.size w w0) := by rw [hw0]; exact ⟨Blk.new rfl, (Below.refl _ _).alloc (Nat.le_refl _) _⟩
  clear h hc hde
  go_enter Tryd.func55, Tryd.ntmps55
  go_wp2_with fail
  rw [← hw0]
  refine Calls.mono (HS.out _ (H.out.later H0.out.2)) ?_
  rintro e w1 ⟨rfl, rfl⟩
  have H1 : Hid (Blk w1 w.heap.size #[.int .i64 0, .slice none 0 0] 47 ∧ Below w.heap.size w w1) := H0.out
  clear hw0 H0 HS
  go_wp2_with fail
  refine Calls.mono (HX.out _ (H.out.later H1.out.2)) ?_
  rintro en w2 ⟨v2, rfl, ho, hb⟩
  obtain ⟨ao2, cap2, rfl⟩ := ho.form
  have H2 : Hid (Blk w2 w.heap.size #[.int .i64 0, .slice none 0 0] 47 ∧ Below w.heap.size w w2 ∧ OwS 5 w1.heap.size w2.heap.size w2 (.slice ao2 n cap2) n (cF (crs F e d)) ∧ w.heap.size < w1.heap.size) := ⟨H1.out.1.later hb, H1.out.2.trans (hb.mono H1.out.2.size), ho, H1.out.1.lt⟩
  clear hb ho H1 HX
  have c0 := H2.out.1.cell (j := 0) (v := .int .i64 0) rfl
  have c1 := H2.out.1.cell (j := 1) (v := .slice none 0 0) rfl
  have f0 := H2.out.1.frozen 0
  have f1 := H2.out.1.frozen 1
  go_wp2
  obtain ⟨h1, h2, h3, h4⟩ := H2.out
  refine bodyPost_ret (v := .agg #[.int .i64 0, .slice ao2 n cap2]) (by simp [results, Tryd.results55, go_sem, c0, c1]) rfl ⟨_, rfl, ?_, (h2.setCell (by simp) _).setCell (by simp) _⟩
  rcases h3 with ⟨e1, e2⟩ | ⟨g, cp, e1, q1, q2, q3⟩
  · exact Or.inl ⟨e1, e2⟩
  · exact Or.inr ⟨g, cp, e1, by omega, by simpa using q2, (q3.setOther (by simp; omega) _).setOther (by simp; omega) _⟩
end Go.Proofs.YtdknclkecbdpgaaDoor
