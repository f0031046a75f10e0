/- The first room for a light, in both packages: contracts. -/
import Derived.Test.YtnkjieindcdimaaFt
namespace Go.Proofs.Ytnkjieindcdimaa
open Go.RowKit
set_option linter.unusedVariables false
set_option linter.unusedSimpArgs false
/-- How many ones there are just behind one another, up to place k. -/
def runs (f : Nat → Int) : Nat → Int
  | 0 => 0
  | k + 1 => if f k = 0 then 0 else runs f k + 1
theorem runs_lo (f : Nat → Int) : ∀ k, 0 ≤ runs f k
  | 0 => by simp [runs]
  | k + 1 => by
    show 0 ≤ (if f k = 0 then 0 else runs f k + 1)
    have := runs_lo f k
    split <;> omega
theorem runs_hi (f : Nat → Int) : ∀ k, runs f k ≤ k
  | 0 => by simp [runs]
  | k + 1 => by
    show (if f k = 0 then 0 else runs f k + 1) ≤ ((k + 1 : Nat) : Int)
    have := runs_hi f k
    split <;> omega
/-- The place behind which a run of that width ends first. -/
def fit (f : Nat → Int) (width : Int) : Nat → Int
  | 0 => -1
  | k + 1 => if fit f width k = -1 then (if 1 ≤ width ∧ width ≤ runs f (k + 1) then (k : Int) - width + 1 else -1) else fit f width k
theorem fit_no {f : Nat → Int} {width : Int} (h : width < 1) : ∀ k, fit f width k = -1
  | 0 => rfl
  | k + 1 => by
    show (if fit f width k = -1 then (if 1 ≤ width ∧ width ≤ runs f (k + 1) then (k : Int) - width + 1 else -1) else fit f width k) = -1
    rw [fit_no h k, if_pos rfl, if_neg (by omega)]
theorem fit_next {f : Nat → Int} {width : Int} {k : Nat} (h : fit f width k = -1) (hr : ¬ (1 ≤ width ∧ width ≤ runs f (k + 1))) : fit f width (k + 1) = -1 := by
  show (if fit f width k = -1 then (if 1 ≤ width ∧ width ≤ runs f (k + 1) then (k : Int) - width + 1 else -1) else fit f width k) = -1
  rw [if_pos h, if_neg hr]
theorem fit_at {f : Nat → Int} {width : Int} {k : Nat} (h : fit f width k = -1) (hr : 1 ≤ width ∧ width ≤ runs f (k + 1)) : ∀ {n : Nat}, k < n → fit f width n = (k : Int) - width + 1
  | 0, hk => absurd hk (Nat.not_lt_zero _)
  | n + 1, hk => by
    show (if fit f width n = -1 then (if 1 ≤ width ∧ width ≤ runs f (n + 1) then (n : Int) - width + 1 else -1) else fit f width n) = _
    by_cases e : k = n
    · subst e; rw [if_pos h, if_pos hr]
    · have h1 := fit_at h hr (show k < n by omega)
      have h2 := runs_hi f (k + 1)
      rw [h1, if_neg (by omega)]
theorem fit_below {f : Nat → Int} {width : Int} (h1 : 1 ≤ width) : ∀ {k : Nat}, fit f width k = -1 → runs f k < width
  | 0, _ => by simp [runs]; omega
  | k + 1, h => by
    have e : (if fit f width k = -1 then (if 1 ≤ width ∧ width ≤ runs f (k + 1) then (k : Int) - width + 1 else -1) else fit f width k) = -1 := h
    by_cases z : fit f width k = -1
    · rw [if_pos z] at e
      by_cases r : 1 ≤ width ∧ width ≤ runs f (k + 1)
      · rw [if_pos r] at e
        have := runs_hi f (k + 1)
        omega
      · omega
    · rw [if_neg z] at e; exact absurd e z
set_option maxRecDepth 20000 in
set_option maxHeartbeats 1600000 in
theorem sFit_any {w : World} {bo : Option Addr} {n cq : Nat} {f : Nat → Int} (width : Int) (h : RdRow w (.slice bo n cq) n f) (hn : n ≤ 1000) (wlo : -9223372036854775808 ≤ width) (whi : width ≤ 9223372036854775807) :
    Calls Try.prog 88 #[.slice bo n cq, .int .i64 width] w fun e w' => e = .returned (.int .i64 (fit f width n)) ∧ w' = w := by
  have hnI : (n : Int) ≤ 1000 := by omega
  have H : Hid (RdRow w (.slice bo n cq) n f) := h
  clear h
  by_cases hw : width < 1
  · rw [fit_no hw]
    go_enter Try.func88, Try.ntmps88
    go_wp2
    go_ret
    exact ⟨rfl, rfl⟩
  obtain ⟨C, hC⟩ : ∃ C, C = fit f width n := ⟨_, rfl⟩
  have HC : Hid (C = fit f width n) := hC
  rw [← hC]
  clear hC
  have hw1 : 1 ≤ width := by omega
  go_enter Try.func88, Try.ntmps88
  go_wp2_with fail
  go_loopw [5, 6] (fun u i wr => wr = w ∧ ∃ k : Nat, k ≤ n ∧ i = .int .i64 k ∧ u = .int .i64 (runs f k) ∧ Hid (fit f width k = -1)) (fun _ i _ => n - (intOf i).toNat)
  case atStart => exact ⟨rfl, 0, Nat.zero_le _, rfl, rfl, rfl⟩
  case round =>
    obtain ⟨rfl, k, hk, rfl, rfl, HF⟩ := hrel
    obtain ⟨r, hr⟩ : ∃ r, r = runs f k := ⟨_, rfl⟩
    have hr0 : 0 ≤ r := by rw [hr]; exact runs_lo f k
    have hr1 : r ≤ 1000 := by rw [hr]; have := runs_hi f k; omega
    have hrw : r < width := by rw [hr]; exact fit_below hw1 HF.out
    have HR : Hid (r = runs f k) := hr
    rw [← hr]
    clear hr
    by_cases hkn : k < n
    · obtain ⟨b, off, rfl, hc⟩ := H.out.at hkn
      obtain ⟨v, hv⟩ : ∃ v, v = f k := ⟨_, rfl⟩
      rw [← hv] at hc
      have HV : Hid (v = f k) := hv
      clear hv
      have hkI : (k : Int) < n := by omega
      by_cases hz : v = 0
      · have hzb : (v == 0) = true := by simpa using hz
        have HN : Hid (runs f (k + 1) = 0) := by show (if f k = 0 then 0 else runs f k + 1) = 0; rw [if_pos (by rw [← HV.out]; exact hz)]
        have HF2 : Hid (fit f width (k + 1) = -1) := fit_next HF.out (by rw [HN.out]; omega)
        clear hz
        go_wp2
        go_roundw
        case rel => exact ⟨by trivial, k + 1, by omega, by simp, by rw [HN.out], HF2⟩
        case measure => simp [intOf]; omega
      · have hzb : (v == 0) = false := by simpa using hz
        have HN : Hid (runs f (k + 1) = r + 1) := by show (if f k = 0 then 0 else runs f k + 1) = r + 1; rw [if_neg (by rw [← HV.out]; exact hz), HR.out]
        clear hz
        by_cases hge : width ≤ r + 1
        · have hs : Hid (C = (k : Int) - width + 1) := by rw [HC.out]; exact fit_at HF.out ⟨hw1, by rw [HN.out]; exact hge⟩ hkn
          go_wp2
          go_ret
          exact ⟨by rw [hs.out]; rfl, rfl⟩
        · have HF2 : Hid (fit f width (k + 1) = -1) := fit_next HF.out (by rw [HN.out]; omega)
          go_wp2
          go_roundw
          case rel => exact ⟨by trivial, k + 1, by omega, by simp, by rw [HN.out], HF2⟩
          case measure => simp [intOf]; omega
    · obtain rfl : n = k := by omega
      have hs : Hid (C = -1) := by rw [HC.out]; exact HF.out
      go_wp2
      go_ret
      exact ⟨by rw [hs.out]; rfl, rfl⟩
set_option maxRecDepth 20000 in
set_option maxHeartbeats 1600000 in
theorem iFit_any {w : World} {bo : Option Addr} {n cq : Nat} {f : Nat → Int} (width : Int) (h : RdRow w (.slice bo n cq) n f) (hn : n ≤ 1000) (wlo : -9223372036854775808 ≤ width) (whi : width ≤ 9223372036854775807) :
    Calls Try.prog 89 #[.slice bo n cq, .int .i64 width] w fun e w' => e = .returned (.int .i64 (fit f width n)) ∧ w' = w := by
  have hnI : (n : Int) ≤ 1000 := by omega
  have H : Hid (RdRow w (.slice bo n cq) n f) := h
  clear h
  obtain ⟨C, hC⟩ : ∃ C, C = fit f width n := ⟨_, rfl⟩
  have HC : Hid (C = fit f width n) := hC
  rw [← hC]
  clear hC
  go_enter Try.func89, Try.ntmps89
  go_wp2_with fail
  go_loopw [5, 10] (fun u i wr => wr = w ∧ ∃ k : Nat, k ≤ n ∧ i = .int .i64 k ∧ u = .int .i64 (runs f k) ∧ Hid (fit f width k = -1)) (fun _ i _ => n - (intOf i).toNat)
  case atStart => exact ⟨rfl, 0, Nat.zero_le _, rfl, rfl, rfl⟩
  case round =>
    obtain ⟨rfl, k, hk, rfl, rfl, HF⟩ := hrel
    obtain ⟨r, hr⟩ : ∃ r, r = runs f k := ⟨_, rfl⟩
    have hr0 : 0 ≤ r := by rw [hr]; exact runs_lo f k
    have hr1 : r ≤ 1000 := by rw [hr]; have := runs_hi f k; omega
    have HRW : Hid (1 ≤ width → r < width) := fun h1 => by rw [hr]; exact fit_below h1 HF.out
    have HR : Hid (r = runs f k) := hr
    rw [← hr]
    clear hr
    by_cases hkn : k < n
    · obtain ⟨b, off, rfl, hc⟩ := H.out.at hkn
      obtain ⟨v, hv⟩ : ∃ v, v = f k := ⟨_, rfl⟩
      rw [← hv] at hc
      have HV : Hid (v = f k) := hv
      clear hv
      have hkI : (k : Int) < n := by omega
      by_cases hz : v = 0
      · have hzb : (v == 0) = true := by simpa using hz
        have HN : Hid (runs f (k + 1) = 0) := by show (if f k = 0 then 0 else runs f k + 1) = 0; rw [if_pos (by rw [← HV.out]; exact hz)]
        have HF2 : Hid (fit f width (k + 1) = -1) := fit_next HF.out (by rw [HN.out]; omega)
        clear hz
        go_wp2
        go_roundw
        case rel => exact ⟨by trivial, k + 1, by omega, by simp, by rw [HN.out], HF2⟩
        case measure => simp [intOf]; omega
      · have hzb : (v == 0) = false := by simpa using hz
        have HN : Hid (runs f (k + 1) = r + 1) := by show (if f k = 0 then 0 else runs f k + 1) = r + 1; rw [if_neg (by rw [← HV.out]; exact hz), HR.out]
        clear hz
        by_cases hge : r + 1 = width
        · have hs : Hid (C = (k : Int) + 1 - width) := by
            have e1 : fit f width n = (k : Int) - width + 1 := fit_at HF.out ⟨by omega, by rw [HN.out]; omega⟩ hkn
            show C = _
            rw [HC.out, e1]
            omega
          have hgb : (r + 1 == width) = true := by simpa using hge
          have hwb : width ≤ 1001 := by omega
          have hwa : 1 ≤ width := by omega
          clear hge
          go_wp2
          go_ret
          exact ⟨by rw [hs.out]; rfl, rfl⟩
        · have HF2 : Hid (fit f width (k + 1) = -1) := fit_next HF.out (by rw [HN.out]; intro hh; have := HRW.out hh.1; omega)
          have hgb : (r + 1 == width) = false := by simpa using hge
          clear hge
          go_wp2
          go_roundw
          case rel => exact ⟨by trivial, k + 1, by omega, by simp, by rw [HN.out], HF2⟩
          case measure => simp [intOf]; omega
    · obtain rfl : n = k := by omega
      have hs : Hid (C = -1) := by rw [HC.out]; exact HF.out
      go_wp2
      go_ret
      exact ⟨by rw [hs.out]; rfl, rfl⟩
/-- What FirstFit answers. -/
def ffit (nodes slots : Int) (nf : Nat) (F : Nat → Fb) (n : Nat) (L : Nat → Li) (np : Nat) (p : Nat → Int) (width : Int) : Int :=
  if fscode nodes slots nf F n L np p = 0 then fit (fun s => fre (Nt.bk L n) p np s) width slots.toNat else -1
set_option maxRecDepth 20000 in
set_option maxHeartbeats 1600000 in
theorem sFf_any {w : World} {ao lo bo : Option Addr} {nf cp n cl np cq : Nat} {nodes slots : Int} {F : Nat → Fb} {L : Nat → Li} {p : Nat → Int} (width : Int) (h : Rf w (.slice ao nf cp) nf F) (hl : RdL w (.slice lo n cl) n L) (hp : RdRow w (.slice bo np cq) np p) (hf : nf ≤ 1048576) (hw : LFew n L) (hnp : np ≤ 1048576) (wlo : -9223372036854775808 ≤ width) (whi : width ≤ 9223372036854775807) :
    Calls Try.prog 46 #[.agg #[.int .i64 nodes, .int .i64 slots, .slice ao nf cp], .slice lo n cl, .slice bo np cq, .int .i64 width] w fun e w' => e = .returned (.int .i64 (ffit nodes slots nf F n L np p width)) ∧ Below w.heap.size w w' := by
  obtain ⟨X, hX⟩ : ∃ X, X = (w.alloc (.cells #[.int .i64 nodes, .int .i64 slots, .slice ao nf cp] 29)) := ⟨_, rfl⟩
  have BX : Hid (Blk X w.heap.size #[.int .i64 nodes, .int .i64 slots, .slice ao nf cp] 29 ∧ Below w.heap.size w X) := by rw [hX]; exact ⟨Blk.new rfl, (Below.refl _ _).alloc (Nat.le_refl _) _⟩
  have CX : ∀ W, Below X.heap.size X W → W.cell? ⟨w.heap.size, 0, none⟩ = some (.int .i64 nodes) ∧ W.cell? ⟨w.heap.size, 1, none⟩ = some (.int .i64 slots) ∧ W.cell? ⟨w.heap.size, 2, none⟩ = some (.slice ao nf cp) :=
    fun W h => ⟨(BX.out.1.old h).cell rfl, (BX.out.1.old h).cell rfl, (BX.out.1.old h).cell rfl⟩
  have hXz : w.heap.size ≤ X.heap.size := Nat.le_of_lt BX.out.1.lt
  have H : Hid (Rf X (.slice ao nf cp) nf F ∧ RdL X (.slice lo n cl) n L ∧ LFew n L ∧ RdRow X (.slice bo np cq) np p) := ⟨h.later BX.out.2, hl.later BX.out.2, hw, hp.later BX.out.2⟩
  clear h hl hw hp
  obtain ⟨c, hc⟩ : ∃ c, c = fscode nodes slots nf F n L np p := ⟨_, rfl⟩
  have HC : Hid (c = fscode nodes slots nf F n L np p) := hc
  clear hc
  unfold ffit
  rw [← HC.out]
  go_enter Try.func46, Try.ntmps46
  go_wp2_with fail
  rw [← hX]
  clear hX
  obtain ⟨x0, x1, x2⟩ := CX X (Below.refl _ _)
  go_wp2_with fail
  refine (sFs_any HC.out H.out.1 H.out.2.1 H.out.2.2.2 hf H.out.2.2.1 hnp).mono ?_
  rintro e w1 ⟨v, rfl, ho, hb1⟩
  clear x0 x1 x2
  obtain ⟨va, vk, vc, hv⟩ := ho.shape
  subst hv
  obtain ⟨Y, hY⟩ : ∃ Y, Y = w1.alloc (.cells #[.int .i64 c, .slice va vk vc] 62) := ⟨_, rfl⟩
  have HY : Hid (Blk Y w1.heap.size #[.int .i64 c, .slice va vk vc] 62 ∧ OutL Y c (.slice va vk vc) slots.toNat (fun s => fre (Nt.bk L n) p np s) ∧ Below w.heap.size w Y) := by
    rw [hY]
    have hbb : Below w1.heap.size w1 (w1.alloc (.cells #[.int .i64 c, .slice va vk vc] 62)) := (Below.refl _ _).alloc (Nat.le_refl _) _
    exact ⟨Blk.new rfl, ho.later hbb, BX.out.2.trans ((hb1.trans (hbb.mono hb1.size)).mono hXz)⟩
  clear ho hb1
  go_upto_region 2 with fail
  rw [← hY]
  clear hY
  have y0 : Y.cell? ⟨w1.heap.size, 0, none⟩ = some (.int .i64 c) := HY.out.1.cell rfl
  have y1 : Y.cell? ⟨w1.heap.size, 1, none⟩ = some (.slice va vk vc) := HY.out.1.cell rfl
  by_cases hz : c = 0
  · have hzb : (c != 0) = false := by simp [hz]
    have HFew : Hid (slots.toNat ≤ 1000) := fs_few HC.out hz
    have hrd : RdRow Y (.slice va vk vc) slots.toNat (fun s => fre (Nt.bk L n) p np s) := by
      rcases HY.out.2.1 with ⟨q, _⟩ | ⟨_, q⟩
      · exact absurd hz q
      · exact q
    obtain ⟨a2, c2, e2⟩ := hrd.shape
    simp only [Value.slice.injEq] at e2
    obtain ⟨rfl, e3, rfl⟩ := e2
    rw [e3] at hrd y1
    have HRD : Hid (RdRow Y (.slice va slots.toNat vc) slots.toNat (fun s => fre (Nt.bk L n) p np s)) := hrd
    have HZ : Hid (c = 0) := hz
    have hfs : Hid (fit (fun s => fre (Nt.bk L n) p np s) width slots.toNat = fit (fun s => fre (Nt.bk L n) p np s) width slots.toNat) := rfl
    subst e3
    clear hrd hz
    go_wp2_with fail
    refine (sFit_any width HRD.out HFew.out wlo whi).mono ?_
    rintro e w2 ⟨rfl, rfl⟩
    go_wp2
    go_ret
    exact ⟨by first | rfl | (rw [if_pos HZ.out]; rfl), HY.out.2.2⟩
  · have hzb : (c != 0) = true := by simpa using hz
    have HZ : Hid (c ≠ 0) := hz
    clear hz
    go_wp2
    go_ret
    exact ⟨by first | rfl | (rw [if_neg HZ.out]; rfl), HY.out.2.2⟩
set_option maxRecDepth 20000 in
set_option maxHeartbeats 1600000 in
theorem iFf_any {w : World} {ao lo bo : Option Addr} {nf cp n cl np cq : Nat} {nodes slots : Int} {F : Nat → Fb} {L : Nat → Li} {p : Nat → Int} (width : Int) (h : Rf w (.slice ao nf cp) nf F) (hl : RdL w (.slice lo n cl) n L) (hp : RdRow w (.slice bo np cq) np p) (hf : nf ≤ 1048576) (hw : LFew n L) (hnp : np ≤ 1048576) (wlo : -9223372036854775808 ≤ width) (whi : width ≤ 9223372036854775807) (hcp : nf ≤ cp) (hd : LBd n L) :
    Calls Try.prog 47 #[.agg #[.int .i64 nodes, .int .i64 slots, .slice ao nf cp], .slice lo n cl, .slice bo np cq, .int .i64 width] w fun e w' => e = .returned (.int .i64 (ffit nodes slots nf F n L np p width)) ∧ Below w.heap.size w w' := by
  obtain ⟨X, hX⟩ : ∃ X, X = (w.alloc (.cells #[.int .i64 nodes, .int .i64 slots, .slice ao nf cp] 29)) := ⟨_, rfl⟩
  have BX : Hid (Blk X w.heap.size #[.int .i64 nodes, .int .i64 slots, .slice ao nf cp] 29 ∧ Below w.heap.size w X) := by rw [hX]; exact ⟨Blk.new rfl, (Below.refl _ _).alloc (Nat.le_refl _) _⟩
  have CX : ∀ W, Below X.heap.size X W → W.cell? ⟨w.heap.size, 0, none⟩ = some (.int .i64 nodes) ∧ W.cell? ⟨w.heap.size, 1, none⟩ = some (.int .i64 slots) ∧ W.cell? ⟨w.heap.size, 2, none⟩ = some (.slice ao nf cp) :=
    fun W h => ⟨(BX.out.1.old h).cell rfl, (BX.out.1.old h).cell rfl, (BX.out.1.old h).cell rfl⟩
  have hXz : w.heap.size ≤ X.heap.size := Nat.le_of_lt BX.out.1.lt
  have H : Hid (Rf X (.slice ao nf cp) nf F ∧ RdL X (.slice lo n cl) n L ∧ LFew n L ∧ RdRow X (.slice bo np cq) np p) := ⟨h.later BX.out.2, hl.later BX.out.2, hw, hp.later BX.out.2⟩
  clear h hl hw hp
  obtain ⟨c, hc⟩ : ∃ c, c = fscode nodes slots nf F n L np p := ⟨_, rfl⟩
  have HC : Hid (c = fscode nodes slots nf F n L np p) := hc
  clear hc
  have HDb : Hid (LBd n L) := hd
  clear hd
  unfold ffit
  rw [← HC.out]
  have field62_1 : ∀ (a b : Value) (u : World), (Instr.field 62 (.agg #[a, b]) 1).run Try.prog u = .ok b u := fun a b u => by kernel_rfl
  go_enter Try.func47, Try.ntmps47
  go_wp2_with fail
  rw [← hX]
  clear hX
  obtain ⟨x0, x1, x2⟩ := CX X (Below.refl _ _)
  go_wp2_with fail
  refine (iFs_any HC.out H.out.1 H.out.2.1 H.out.2.2.2 hf H.out.2.2.1 hnp hcp HDb.out).mono ?_
  rintro e w1 ⟨v, rfl, ho, hb1⟩
  clear x0 x1 x2
  have HB : Hid (Below w.heap.size w w1) := BX.out.2.trans (hb1.mono hXz)
  rcases ho with ⟨hz, rfl⟩ | ⟨hz, g, cap, rfl, _, _, hs⟩
  · have HZ : Hid (c ≠ 0) := hz
    clear hz hb1
    go_wp2_with fail
    refine (iFit_any (f := fun _ => 0) (n := 0) width (Or.inl ⟨_, _, rfl, rfl⟩) (by omega) wlo whi).mono ?_
    rintro e w2 ⟨rfl, rfl⟩
    go_wp2
    go_ret
    exact ⟨by first | rfl | (rw [if_neg HZ.out]; rfl), HB.out⟩
  · have HZ : Hid (c = 0) := hz
    have HFew : Hid (slots.toNat ≤ 1000) := fs_few HC.out hz
    have HRD : Hid (RdRow w1 (.slice (some ⟨g, 0, none⟩) slots.toNat cap) slots.toNat (fun s => fre (Nt.bk L n) p np s)) := hs.rd
    clear hz hb1 hs
    go_wp2_with fail
    refine (iFit_any width HRD.out HFew.out wlo whi).mono ?_
    rintro e w2 ⟨rfl, rfl⟩
    go_wp2
    go_ret
    exact ⟨by first | rfl | (rw [if_pos HZ.out]; rfl), HB.out⟩
end Go.Proofs.Ytnkjieindcdimaa
