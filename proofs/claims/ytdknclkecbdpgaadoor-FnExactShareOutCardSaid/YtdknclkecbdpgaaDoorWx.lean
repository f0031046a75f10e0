/- Bytes written in rows and read in columns, of both packages. -/
import Derived.Test.YtdknclkecbdpgaaDoorLs
namespace Go.Proofs.YtdknclkecbdpgaaDoor
open Go.RowKit
set_option linter.unusedVariables false
set_option linter.unusedSimpArgs false
abbrev cF (f : Nat → Int) : Nat → Value := fun i => .int .u8 (f i)
/-- wr: the list v of n values F, owned from base on; all that was there is as it was. -/
structure Lo (w wr : World) (base : Nat) (t : TypeId) (v : Value) (n : Nat) (F : Nat → Value) : Prop where
  own : wr.ownsRow base t 1 v n (vl F n)
  below : Below w.heap.size w wr
  lb : w.heap.size ≤ base
  lt : base ≤ wr.heap.size
namespace Lo
variable {w wr w3 : World} {base : Nat} {t : TypeId} {v v1 : Value} {n : Nat} {F : Nat → Value}
theorem push' (h : Lo w wr base t v n F) {o : Obj} {us : List Value} (own3 : w3.ownsRow base t 1 v1 (n + 1) us) (hus : us = vl F n ++ [F n]) (grow3 : (wr.alloc o).grownBy w3 v.ownBlock) : Lo w w3 base t v1 (n + 1) F := by
  subst hus
  have b3 : Below base wr w3 := push_below h.own grow3 (Below.refl _ _) h.lt
  exact ⟨by rw [← vl_push]; exact own3, h.below.trans (b3.mono h.lb), h.lb, Nat.le_trans h.lt b3.size⟩
theorem out (h : Lo w wr base t v n F) : OwS t w.heap.size wr.heap.size wr v n F := by
  rcases owned_vl h.own with ⟨e1, e2⟩ | ⟨g, cp, e1, h1, h2, h3⟩
  · exact Or.inl ⟨e1, e2⟩
  · exact Or.inr ⟨g, cp, e1, Nat.le_trans h.lb h1, h2, h3⟩
end Lo
theorem mk0 (C : Nat) (hC : C ≤ 1000000000) (w : World) : (Instr.makeSlice 22 (.int .i64 0) (.int .i64 (C : Int))).run Tryd.prog w = .ok (.slice (some ⟨w.heap.size, 0, none⟩) 0 C) (w.alloc (.cells (madeCells #[.int .u8 0] (C * 1)) 5)) := by
  obtain ⟨i, hi, hz, hs, hb⟩ := info_parts info5
  have hr := run_make (P := Tryd.prog) w 22 5 i _ Tryd.underlying22 hi hz .i64 .i64 0 C (by omega) (by omega) (by rw [hb]; omega) (by omega)
  rw [hs] at hr
  simpa [Value.cells] using hr
/-- Read column by column: d a row, e rows. -/
def crs (F : Nat → Int) (d e i : Nat) : Int := F (i / e + i % e * d)
theorem crs_at (F : Nat → Int) {d e c r : Nat} (hr : r < e) : crs F d e (c * e + r) = F (c + r * d) := by
  unfold crs
  have h1 : (c * e + r) / e = c := by rw [Nat.mul_comm, Nat.mul_add_div (by omega), Nat.div_eq_of_lt hr]; omega
  have h2 : (c * e + r) % e = r := by rw [Nat.mul_comm, Nat.mul_add_mod, Nat.mod_eq_of_lt hr]
  rw [h1, h2]
theorem at_lt {d e c r : Nat} (hc : c < d) : c + r * d < d * e ↔ r < e := by
  constructor
  · intro h
    rcases Nat.lt_or_ge r e with h2 | h2
    · exact h2
    · have := Nat.mul_le_mul_left d h2
      rw [Nat.mul_comm d r] at this
      omega
  · intro h
    have := Nat.mul_le_mul_left d (show r + 1 ≤ e by omega)
    rw [Nat.mul_add, Nat.mul_comm d r] at this
    omega
def widc (n : Nat) (m : Int) : Int := if 100000 < n then 2 else if m < 1 ∨ 1000 < m ∨ (n : Int) % m ≠ 0 then 1 else 0
theorem widc_0 {n : Nat} {m : Int} (h : widc n m = 0) : n ≤ 100000 ∧ ∃ d e : Nat, m = d ∧ 1 ≤ d ∧ d ≤ 1000 ∧ n = d * e := by
  unfold widc at h
  split at h
  · omega
  · split at h
    · omega
    · rename_i h1 h2
      have h3 : ¬ m < 1 := fun x => h2 (Or.inl x)
      have h4 : ¬ 1000 < m := fun x => h2 (Or.inr (Or.inl x))
      have h5 : (n : Int) % m = 0 := by
        by_cases h6 : (n : Int) % m = 0
        · exact h6
        · exact absurd (Or.inr (Or.inr h6)) h2
      obtain ⟨d, rfl⟩ := Int.eq_ofNat_of_zero_le (show 0 ≤ m by omega)
      have h6 : n % d = 0 := by have : ((n % d : Nat) : Int) = 0 := by rw [Int.natCast_emod]; exact h5
                                omega
      refine ⟨by omega, d, n / d, rfl, by omega, by omega, ?_⟩
      have := Nat.div_add_mod n d
      omega
set_option maxRecDepth 20000 in
set_option maxHeartbeats 3200000 in
theorem iWidth_any (ao : Option Addr) (n cap : Nat) (hm : n ≤ 1000000000000) (m : Int) (w : World) : Calls Tryd.prog 108 #[.slice ao n cap, .int .i64 m] w fun e w' => e = .returned (er (widc n m)) ∧ w' = w := by
  by_cases hn : 100000 < n
  · have hc : Hid (widc n m = 2) := by show _ = _; unfold widc; rw [if_pos hn]
    have hd : decide ((100000 : Int) < n) = true := by simp; omega
    go_enter Tryd.func108, Tryd.ntmps108
    go_wp2_with fail
    refine Calls.mono (bytesFault_any _ _ _ hm _) ?_
    rintro e w0 ⟨rfl, rfl⟩
    rw [mb_many hn, er_c (by decide)]
    go_wp2
    go_ret
    exact ⟨by rw [hc.out, er_c (by decide)]; rfl, rfl⟩
  have hn' : n ≤ 100000 := by omega
  have hd : decide ((100000 : Int) < n) = false := by simp; omega
  by_cases h1 : m < 1
  · have hc : Hid (widc n m = 1) := by show _ = _; unfold widc; rw [if_neg hn, if_pos (Or.inl h1)]
    go_enter Tryd.func108, Tryd.ntmps108
    go_wp2_with fail
    refine Calls.mono (bytesFault_any _ _ _ hm _) ?_
    rintro e w0 ⟨rfl, rfl⟩
    rw [mb_ok hn', er_0]
    go_wp2
    go_ret
    exact ⟨by rw [hc.out, er_c (by decide)]; rfl, rfl⟩
  by_cases h2 : 1000 < m
  · have hc : Hid (widc n m = 1) := by show _ = _; unfold widc; rw [if_neg hn, if_pos (Or.inr (Or.inl h2))]
    go_enter Tryd.func108, Tryd.ntmps108
    go_wp2_with fail
    refine Calls.mono (bytesFault_any _ _ _ hm _) ?_
    rintro e w0 ⟨rfl, rfl⟩
    rw [mb_ok hn', er_0]
    go_wp2
    go_ret
    exact ⟨by rw [hc.out, er_c (by decide)]; rfl, rfl⟩
  have ht : (n : Int).tmod m = (n : Int) % m := Int.tmod_eq_emod_of_nonneg (by omega)
  have hm0 : m ≠ 0 := by omega
  obtain ⟨q, hq⟩ : ∃ q, q = (n : Int) % m := ⟨_, rfl⟩
  rw [← hq] at ht
  have hq' : (n : Int) % m = q := hq.symm
  by_cases h3 : q = 0
  · have hc : Hid (widc n m = 0) := by show _ = _; unfold widc; rw [if_neg hn, if_neg (by rw [hq', h3]; omega)]
    have h4 : (q != 0) = false := by simp [h3]
    clear hq
    go_enter Tryd.func108, Tryd.ntmps108
    go_wp2_with fail
    refine Calls.mono (bytesFault_any _ _ _ hm _) ?_
    rintro e w0 ⟨rfl, rfl⟩
    rw [mb_ok hn', er_0]
    go_wp2
    go_ret
    exact ⟨by rw [hc.out, er_0]; rfl, rfl⟩
  · have hc : Hid (widc n m = 1) := by show _ = _; unfold widc; rw [if_neg hn, if_pos (Or.inr (Or.inr (by rw [hq']; exact h3)))]
    have h4 : (q != 0) = true := by simp [h3]
    clear hq
    go_enter Tryd.func108, Tryd.ntmps108
    go_wp2_with fail
    refine Calls.mono (bytesFault_any _ _ _ hm _) ?_
    rintro e w0 ⟨rfl, rfl⟩
    rw [mb_ok hn', er_0]
    go_wp2
    go_ret
    exact ⟨by rw [hc.out, er_c (by decide)]; rfl, rfl⟩
set_option maxRecDepth 20000 in
set_option maxHeartbeats 3200000 in
theorem sWidth_any (ao : Option Addr) (n cap : Nat) (hm : n ≤ 1000000000000) (m : Int) (w : World) : Calls Tryd.prog 106 #[.slice ao n cap, .int .i64 m] w fun e w' => e = .returned (.int .i64 (widc n m)) ∧ w' = w := by
  by_cases hn : 100000 < n
  · have hc : Hid (widc n m = 2) := by show _ = _; unfold widc; rw [if_pos hn]
    have hd : decide ((100000 : Int) < n) = true := by simp; omega
    go_enter Tryd.func106, Tryd.ntmps106
    go_wp2_with fail
    refine Calls.mono (many_any _ _ _ _) ?_
    rintro e w0 ⟨rfl, rfl⟩
    rw [hd]
    go_wp2
    go_ret
    exact ⟨by rw [hc.out]; rfl, rfl⟩
  have hn' : n ≤ 100000 := by omega
  have hd : decide ((100000 : Int) < n) = false := by simp; omega
  by_cases h1 : m < 1
  · have hc : Hid (widc n m = 1) := by show _ = _; unfold widc; rw [if_neg hn, if_pos (Or.inl h1)]
    go_enter Tryd.func106, Tryd.ntmps106
    go_wp2_with fail
    refine Calls.mono (many_any _ _ _ _) ?_
    rintro e w0 ⟨rfl, rfl⟩
    rw [hd]
    go_wp2
    go_ret
    exact ⟨by rw [hc.out]; rfl, rfl⟩
  by_cases h2 : 1000 < m
  · have hc : Hid (widc n m = 1) := by show _ = _; unfold widc; rw [if_neg hn, if_pos (Or.inr (Or.inl h2))]
    go_enter Tryd.func106, Tryd.ntmps106
    go_wp2_with fail
    refine Calls.mono (many_any _ _ _ _) ?_
    rintro e w0 ⟨rfl, rfl⟩
    rw [hd]
    go_wp2
    go_ret
    exact ⟨by rw [hc.out]; rfl, rfl⟩
  have ht : (n : Int).tmod m = (n : Int) % m := Int.tmod_eq_emod_of_nonneg (by omega)
  have hm0 : m ≠ 0 := by omega
  obtain ⟨q, hq⟩ : ∃ q, q = (n : Int) % m := ⟨_, rfl⟩
  rw [← hq] at ht
  have hq' : (n : Int) % m = q := hq.symm
  by_cases h3 : q = 0
  · have hc : Hid (widc n m = 0) := by show _ = _; unfold widc; rw [if_neg hn, if_neg (by rw [hq', h3]; omega)]
    have h4 : (q != 0) = false := by simp [h3]
    clear hq
    go_enter Tryd.func106, Tryd.ntmps106
    go_wp2_with fail
    refine Calls.mono (many_any _ _ _ _) ?_
    rintro e w0 ⟨rfl, rfl⟩
    rw [hd]
    go_wp2
    go_ret
    exact ⟨by rw [hc.out]; rfl, rfl⟩
  · have hc : Hid (widc n m = 1) := by show _ = _; unfold widc; rw [if_neg hn, if_pos (Or.inr (Or.inr (by rw [hq']; exact h3)))]
    have h4 : (q != 0) = true := by simp [h3]
    clear hq
    go_enter Tryd.func106, Tryd.ntmps106
    go_wp2_with fail
    refine Calls.mono (many_any _ _ _ _) ?_
    rintro e w0 ⟨rfl, rfl⟩
    rw [hd]
    go_wp2
    go_ret
    exact ⟨by rw [hc.out]; rfl, rfl⟩
set_option maxRecDepth 20000 in
set_option maxHeartbeats 3200000 in
theorem iCross_any {w : World} {v : Value} {d e : Nat} {F : Nat → Int} (h : RdB w v (d * e) F) (hn : d * e ≤ 100000) (hd : d ≤ 100000) :
    Calls Tryd.prog 109 #[v, .int .i64 (d : Int)] w fun en w' => ∃ v', en = .returned v' ∧ OwS 5 w.heap.size w'.heap.size w' v' (d * e) (cF (crs F d e)) ∧ Below w.heap.size w w' := by
  obtain ⟨ao, cap, rfl⟩ := h.form
  have H : Hid (RdB w (.slice ao (d * e) cap) (d * e) F) := h
  clear h
  obtain ⟨n, hnn⟩ : ∃ n : Nat, n = d * e := ⟨_, rfl⟩
  have HNN : Hid (n = d * e) := hnn
  have hmk := mk0 (d * e) (by omega)
  rw [← hnn] at hn H ⊢ hmk
  have hn2 : (n : Int) ≤ 100000 := by omega
  clear hnn
  go_enter Tryd.func109, Tryd.ntmps109
  go_wp2_with fail
  clear hmk
  have HL0 : Hid (Lo w (w.alloc (.cells (madeCells #[.int .u8 0] (n * 1)) 5)) w.heap.size 5 (.slice (some ⟨w.heap.size, 0, none⟩) 0 n) 0 (cF (crs F d e))) := ⟨owns_made _ _ _ 1 _ (by unfold maxLen; omega), (Below.refl _ _).alloc (Nat.le_refl _) _, Nat.le_refl _, by simp⟩

  go_loopw [5, 12] (fun v i wr => ∃ c : Nat, c ≤ d ∧ i = .int .i64 c ∧ Hid (Lo w wr w.heap.size 5 v (c * e) (cF (crs F d e)))) (fun _ i _ => d - (intOf i).toNat)
  case atStart => exact ⟨0, Nat.zero_le _, rfl, by rw [Nat.zero_mul]; first | exact HL0 | (rw [Nat.mul_one] at HL0; exact HL0)⟩
  case round =>
    obtain ⟨c, hc, rfl, HL⟩ := hrel
    clear HL0
    by_cases hcd : c < d
    · go_wp2_with fail
      have HL1 : Hid (Lo w wr w.heap.size 5 u5 (c * e + 0) (cF (crs F d e))) := HL
      go_loopw [5, 7] (fun v i wr' => ∃ r a : Nat, r ≤ e ∧ i = .int .i64 (a : Int) ∧ Hid (a = c + r * d) ∧ Hid (Lo w wr' w.heap.size 5 v (c * e + r) (cF (crs F d e)))) (fun _ i _ => n + d - (intOf i).toNat)
      case atStart => exact ⟨0, c, Nat.zero_le _, rfl, by show _ = _; omega, HL1⟩
      case round =>
        obtain ⟨r, a, hr, rfl, HA, HQ⟩ := hrel
        clear HL1 HL
        have hb : a ≤ n + d := by
          have h1 := Nat.mul_le_mul_right d hr
          have h2 := HNN.out
          have h3 := HA.out
          rw [Nat.mul_comm e d] at h1
          omega
        by_cases hre : r < e
        · have han : a < n := by rw [HA.out, HNN.out]; exact (at_lt hcd).2 hre
          have hanI : (a : Int) < n := by omega
          rcases H.out with ⟨ao', cap', e1, e2⟩ | ⟨b, off, cap', e1, hcell⟩
          · omega
          cases e1
          have g1 : wr.cell? ⟨b, off + a, none⟩ = some (.int .u8 (F a)) := (HQ.out.below.cell (World.block_lt_of_cell? _ _ (hcell a han))).trans (hcell a han)
          have HU : Hid (vl (cF (crs F d e)) (c * e + r) ++ [Value.int IntKind.u8 (F a)] = vl (cF (crs F d e)) (c * e + r) ++ [cF (crs F d e) (c * e + r)]) := by show _ = _ ++ [Value.int IntKind.u8 (crs F d e (c * e + r))]; rw [crs_at F hre, HA.out]
          have HZ : Hid (c * e + r ≤ 1000000000) := by
            show _ ≤ _
            have h1 := Nat.mul_le_mul_right e (show c + 1 ≤ d by omega)
            rw [Nat.add_mul] at h1
            have h2 := HNN.out
            omega
          have HA2 : Hid (a + d = c + (r + 1) * d) := by show _ = _; rw [Nat.succ_mul]; have := HA.out; omega
          clear hcell
          go_wp2_with (first | (at_builtin; refine push_law rfl (.tmp 23) (.tmp 28) 22 rfl 5 (.int .u8 0) 1 1 Tryd.underlying22 info5 rfl (by decide) (by decide) _ [_] rfl (by simp [Value.oneCell']) w.heap.size u5 (c * e + r) _ rfl HQ.out.own 1 rfl HZ.out HQ.out.lt ?_; intro v1 w3 own3 grow3 nn3))
          have HN : Hid (Lo w w3 w.heap.size 5 v1 (c * e + (r + 1)) (cF (crs F d e))) := HQ.out.push' own3 HU.out grow3
          clear own3 grow3 nn3 HQ HU
          go_wp2
          go_roundw
          case rel => exact ⟨r + 1, a + d, by omega, by simp, HA2, HN⟩
          case measure => simp [intOf]; omega
        · obtain rfl : r = e := by omega
          have han : ¬ a < n := by rw [HA.out, HNN.out]; intro h; exact absurd ((at_lt hcd).1 h) (by omega)
          have hanI : ¬ (a : Int) < n := by omega
          have HN : Hid (Lo w wr w.heap.size 5 u5 ((c + 1) * r) (cF (crs F d r))) := by show Lo _ _ _ _ _ _ _; rw [Nat.succ_mul]; exact HQ.out
          clear HQ
          go_wp2
          go_roundw
          case rel => exact ⟨c + 1, by omega, by simp, HN⟩
          case measure => simp [intOf]; omega
    · obtain rfl : c = d := by omega
      obtain ⟨ao2, cap2, rfl⟩ := (owned_vl HL.out.own).form
      go_wp2
      go_ret
      exact ⟨_, rfl, by rw [HNN.out]; exact HL.out.out, HL.out.below⟩
set_option maxRecDepth 20000 in
set_option maxHeartbeats 3200000 in
theorem sCross_any {w : World} {v : Value} {d e : Nat} {F : Nat → Int} (h : RdB w v (d * e) F) (hn : d * e ≤ 100000) (hd : d ≤ 100000) :
    Calls Tryd.prog 107 #[v, .int .i64 (d : Int)] w fun en w' => ∃ v', en = .returned v' ∧ OwS 5 w.heap.size w'.heap.size w' v' (d * e) (cF (crs F d e)) ∧ Below w.heap.size w w' := by
  obtain ⟨ao, cap, rfl⟩ := h.form
  have H : Hid (RdB w (.slice ao (d * e) cap) (d * e) F) := h
  clear h
  obtain ⟨n, hnn⟩ : ∃ n : Nat, n = d * e := ⟨_, rfl⟩
  have HNN : Hid (n = d * e) := hnn
  rw [← hnn] at hn H ⊢
  have hn2 : (n : Int) ≤ 100000 := by omega
  clear hnn
  go_enter Tryd.func107, Tryd.ntmps107
  go_wp2_with fail
  have HL0 : Hid (Lo w (w.alloc (.cells #[] 5)) w.heap.size 5 (.slice (some ⟨w.heap.size, 0, none⟩) 0 0) 0 (cF (crs F d e))) := ⟨owns_empty _ _ _, (Below.refl _ _).alloc (Nat.le_refl _) _, Nat.le_refl _, by simp⟩

  go_loopw [5, 6] (fun v i wr => ∃ c : Nat, c ≤ d ∧ i = .int .i64 c ∧ Hid (Lo w wr w.heap.size 5 v (c * e) (cF (crs F d e)))) (fun _ i _ => d - (intOf i).toNat)
  case atStart => exact ⟨0, Nat.zero_le _, rfl, by rw [Nat.zero_mul]; first | exact HL0 | (rw [Nat.mul_one] at HL0; exact HL0)⟩
  case round =>
    obtain ⟨c, hc, rfl, HL⟩ := hrel
    clear HL0
    by_cases hcd : c < d
    · go_wp2_with fail
      have HL1 : Hid (Lo w wr w.heap.size 5 u5 (c * e + 0) (cF (crs F d e))) := HL
      go_loopw [5, 7] (fun v i wr' => ∃ r a : Nat, r ≤ e ∧ i = .int .i64 (a : Int) ∧ Hid (a = c + r * d) ∧ Hid (Lo w wr' w.heap.size 5 v (c * e + r) (cF (crs F d e)))) (fun _ i _ => n + d - (intOf i).toNat)
      case atStart => exact ⟨0, c, Nat.zero_le _, rfl, by show _ = _; omega, HL1⟩
      case round =>
        obtain ⟨r, a, hr, rfl, HA, HQ⟩ := hrel
        clear HL1 HL
        have hb : a ≤ n + d := by
          have h1 := Nat.mul_le_mul_right d hr
          have h2 := HNN.out
          have h3 := HA.out
          rw [Nat.mul_comm e d] at h1
          omega
        by_cases hre : r < e
        · have han : a < n := by rw [HA.out, HNN.out]; exact (at_lt hcd).2 hre
          have hanI : (a : Int) < n := by omega
          rcases H.out with ⟨ao', cap', e1, e2⟩ | ⟨b, off, cap', e1, hcell⟩
          · omega
          cases e1
          have g1 : wr.cell? ⟨b, off + a, none⟩ = some (.int .u8 (F a)) := (HQ.out.below.cell (World.block_lt_of_cell? _ _ (hcell a han))).trans (hcell a han)
          have HU : Hid (vl (cF (crs F d e)) (c * e + r) ++ [Value.int IntKind.u8 (F a)] = vl (cF (crs F d e)) (c * e + r) ++ [cF (crs F d e) (c * e + r)]) := by show _ = _ ++ [Value.int IntKind.u8 (crs F d e (c * e + r))]; rw [crs_at F hre, HA.out]
          have HZ : Hid (c * e + r ≤ 1000000000) := by
            show _ ≤ _
            have h1 := Nat.mul_le_mul_right e (show c + 1 ≤ d by omega)
            rw [Nat.add_mul] at h1
            have h2 := HNN.out
            omega
          have HA2 : Hid (a + d = c + (r + 1) * d) := by show _ = _; rw [Nat.succ_mul]; have := HA.out; omega
          clear hcell
          go_wp2_with (first | (at_builtin; refine push_law rfl (.tmp 22) (.tmp 27) 22 rfl 5 (.int .u8 0) 1 1 Tryd.underlying22 info5 rfl (by decide) (by decide) _ [_] rfl (by simp [Value.oneCell']) w.heap.size u5 (c * e + r) _ rfl HQ.out.own 1 rfl HZ.out HQ.out.lt ?_; intro v1 w3 own3 grow3 nn3))
          have HN : Hid (Lo w w3 w.heap.size 5 v1 (c * e + (r + 1)) (cF (crs F d e))) := HQ.out.push' own3 HU.out grow3
          clear own3 grow3 nn3 HQ HU
          go_wp2
          go_roundw
          case rel => exact ⟨r + 1, a + d, by omega, by simp, HA2, HN⟩
          case measure => simp [intOf]; omega
        · obtain rfl : r = e := by omega
          have han : ¬ a < n := by rw [HA.out, HNN.out]; intro h; exact absurd ((at_lt hcd).1 h) (by omega)
          have hanI : ¬ (a : Int) < n := by omega
          have HN : Hid (Lo w wr w.heap.size 5 u5 ((c + 1) * r) (cF (crs F d r))) := by show Lo _ _ _ _ _ _ _; rw [Nat.succ_mul]; exact HQ.out
          clear HQ
          go_wp2
          go_roundw
          case rel => exact ⟨c + 1, by omega, by simp, HN⟩
          case measure => simp [intOf]; omega
    · obtain rfl : c = d := by omega
      obtain ⟨ao2, cap2, rfl⟩ := (owned_vl HL.out.own).form
      go_wp2
      go_ret
      exact ⟨_, rfl, by rw [HNN.out]; exact HL.out.out, HL.out.below⟩
end Go.Proofs.YtdknclkecbdpgaaDoor
