/- Whether two lists join the same places, in both packages: contracts. -/
import Derived.Test.YtclnmikneomccaaNu
namespace Go.Proofs.Ytclnmikneomccaa
open Go.RowKit Go.Maps
set_option linter.unusedVariables false
set_option linter.unusedSimpArgs false
/-- They do. -/
def Sj (n m : Nat) (P Q : Nat → Int) : Prop := n = m ∧ n ≤ 1000 ∧ ∀ i j, i < n → j < n → (P i = P j ↔ Q i = Q j)
theorem xor_eq {a b c d : Int} : ((a == b) != (c == d)) = false ↔ (a = b ↔ c = d) := by
  rw [bne_eq_false_iff_eq, Bool.eq_iff_iff, beq_iff_eq, beq_iff_eq]
theorem row_at {w : World} {ao : Option Addr} {n cap : Nat} {f : Nat → Int} (h : RdRow w (.slice ao n cap) n f) (hn : 0 < n) : ∃ b off, ao = some ⟨b, off, none⟩ ∧ ∀ i, i < n → w.cell? ⟨b, off + i, none⟩ = some (.int .i64 (f i)) := by
  rcases h with ⟨ao', cap', _, e⟩ | ⟨b, off, cap', e, hc⟩
  · omega
  · simp only [Value.slice.injEq] at e
    exact ⟨b, off, e.1, hc⟩
set_option maxRecDepth 20000 in
set_option maxHeartbeats 6400000 in
theorem equalS_any {w : World} {ao bo : Option Addr} {n ca cb : Nat} {P Q : Nat → Int} (hp : RdRow w (.slice ao n ca) n P) (hq : RdRow w (.slice bo n cb) n Q) (hn : n ≤ 1048576) (t : Bool) (ht : t = true ↔ ∀ i, i < n → P i = Q i) :
    Calls Try.prog 81 #[.slice ao n ca, .slice bo n cb] w fun e w' => e = .returned (.bool t) ∧ Below w.heap.size w w' := by
  have HP : ∀ W, Below w.heap.size w W → Hid (RdRow W (.slice ao n ca) n P ∧ RdRow W (.slice bo n cb) n Q) := fun W hb => ⟨hp.later hb, hq.later hb⟩
  have HT : Hid (t = true ↔ ∀ i, i < n → P i = Q i) := ht
  clear hp hq ht
  have hnI : (n : Int) ≤ 1048576 := by omega
  go_enter Try.func81, Try.ntmps81
  go_wp2_with fail
  go_loopw [13] (fun i wr => ∃ k : Nat, k ≤ n ∧ i = .int .i64 k ∧ Hid (Below w.heap.size w wr ∧ ∀ i, i < k → P i = Q i)) (fun i _ => n - (intOf i).toNat)
  case atStart => exact ⟨0, Nat.zero_le _, rfl, Below.refl _ _, fun i hi => absurd hi (Nat.not_lt_zero _)⟩
  case round =>
    obtain ⟨k, hk, rfl, HH⟩ := hrel
    by_cases hkn : k < n
    · have hkI : (k : Int) < n := by omega
      obtain ⟨ba, oa, e1, ca'⟩ := row_at (HP wr HH.out.1).out.1 (by omega)
      obtain ⟨bb, ob, e2, cb'⟩ := row_at (HP wr HH.out.1).out.2 (by omega)
      subst e1 e2
      obtain ⟨p, hpk⟩ : ∃ p, p = P k := ⟨_, rfl⟩
      obtain ⟨q, hqk⟩ : ∃ q, q = Q k := ⟨_, rfl⟩
      have K0 : ∀ x : Kept wr.heap.size wr, x.w.cell? ⟨ba, oa + k, none⟩ = some (.int .i64 p) := fun x => by rw [hpk]; exact kold x.h (ca' k hkn)
      have K1 : ∀ x : Kept wr.heap.size wr, x.w.cell? ⟨bb, ob + k, none⟩ = some (.int .i64 q) := fun x => by rw [hqk]; exact kold x.h (cb' k hkn)
      have HPQ : Hid (p = P k ∧ q = Q k) := ⟨hpk, hqk⟩
      clear ca' cb' hpk hqk
      go_upto_region 6 with fail
      refine wp_region_kept wr.heap.size (by kernel_rfl) (by kernel_rfl) ?_
      intro hne
      repeat (go_big_quiet_step (fail))
      refine wpQuiet_nil ?_
      rintro u ⟨xk, hxk⟩
      have hR1 := xk.h
      rw [← hxk] at hR1
      have HU : Hid (Below w.heap.size w u) := HH.out.1.trans (hR1.mono HH.out.1.size)
      clear hxk xk hne K0 K1 hR1
      by_cases e : p = q
      · have HF : Hid (∀ i, i < k + 1 → P i = Q i) := fun i hi => by
          by_cases c : i = k
          · subst c; rw [← HPQ.out.1, ← HPQ.out.2]; exact e
          · exact HH.out.2 i (by omega)
        subst e
        go_wp2
        go_roundw
        case rel => exact ⟨k + 1, by omega, by simp, HU.out, HF.out⟩
        case measure => simp [intOf]; omega
      · have hs : Hid (t = false) := by
          show t = false
          cases t with
          | false => rfl
          | true => exact absurd (by rw [HPQ.out.1, HPQ.out.2]; exact HT.out.1 rfl k hkn) e
        have e1 : (p != q) = true := by simpa using e
        clear e HP
        go_wp2
        go_ret
        exact ⟨by rw [hs.out]; rfl, HU.out⟩
    · obtain rfl : k = n := by omega
      have hs : Hid (t = true) := HT.out.2 HH.out.2
      clear HP
      go_wp2
      go_ret
      exact ⟨by rw [hs.out]; rfl, HH.out.1⟩
set_option maxRecDepth 20000 in
set_option maxHeartbeats 6400000 in
theorem sSame_any {w : World} {ao bo : Option Addr} {n m ca cb : Nat} {P Q : Nat → Int} (hp : RdRow w (.slice ao n ca) n P) (hq : RdRow w (.slice bo m cb) m Q) (hn : n ≤ 1048576) (hm : m ≤ 1048576) (t : Bool) (ht : t = true ↔ Sj n m P Q) :
    Calls Try.prog 48 #[.slice ao n ca, .slice bo m cb] w fun e w' => e = .returned (.bool t) ∧ Below w.heap.size w w' := by
  have HP : ∀ W, Below w.heap.size w W → Hid (RdRow W (.slice ao n ca) n P ∧ RdRow W (.slice bo m cb) m Q) := fun W hb => ⟨hp.later hb, hq.later hb⟩
  have HT : Hid (t = true ↔ Sj n m P Q) := ht
  clear hp hq ht
  have hnI : (n : Int) ≤ 1048576 := by omega
  have hmI : (m : Int) ≤ 1048576 := by omega
  by_cases hnm : n = m
  case neg =>
    have hs : Hid (t = false) := by
      show t = false
      cases t with
      | false => rfl
      | true => exact absurd (HT.out.1 rfl).1 hnm
    have hb : ((n : Int) != (m : Int)) = true := by simp; omega
    clear HP hnm
    go_enter Try.func48, Try.ntmps48
    go_wp2
    go_ret
    exact ⟨by rw [hs.out]; rfl, Below.refl _ _⟩
  case pos =>
  subst hnm
  by_cases hlong : 1000 < n
  · have hs : Hid (t = false) := by
      show t = false
      cases t with
      | false => rfl
      | true => exact absurd (HT.out.1 rfl).2.1 (by omega)
    have hlI : (1000 : Int) < n := by omega
    clear HP hlong
    go_enter Try.func48, Try.ntmps48
    go_wp2
    go_ret
    exact ⟨by rw [hs.out]; rfl, Below.refl _ _⟩
  have hlI : (n : Int) ≤ 1000 := by omega
  go_enter Try.func48, Try.ntmps48
  go_wp2_with fail
  go_loopw [5] (fun i wr => ∃ k : Nat, k ≤ n ∧ i = .int .i64 k ∧ Hid (Below w.heap.size w wr ∧ ∀ i j, i < k → j < i → (P i = P j ↔ Q i = Q j))) (fun i _ => n - (intOf i).toNat)
  case atStart => exact ⟨0, Nat.zero_le _, rfl, Below.refl _ _, fun i j hi => absurd hi (Nat.not_lt_zero _)⟩
  case round =>
    obtain ⟨k, hk, rfl, HH⟩ := hrel
    by_cases hkn : k < n
    · have hkI : (k : Int) < n := by omega
      obtain ⟨wo, hwo⟩ : ∃ x, x = wr := ⟨_, rfl⟩
      rw [← hwo] at HH ⊢
      clear hwo
      go_wp2_with fail
      go_loopw [6] (fun i wq => ∃ j : Nat, j ≤ k ∧ i = .int .i64 j ∧ Hid (Below w.heap.size w wq ∧ ∀ i, i < j → (P k = P i ↔ Q k = Q i))) (fun i _ => k - (intOf i).toNat)
      case atStart => exact ⟨0, Nat.zero_le _, rfl, HH.out.1, fun i hi => absurd hi (Nat.not_lt_zero _)⟩
      case round =>
        obtain ⟨j, hj, rfl, HJ⟩ := hrel
        by_cases hjk : j < k
        · have hjI : (j : Int) < k := by omega
          have hjn : (j : Int) < n := by omega
          obtain ⟨ba, oa, e1, ca'⟩ := row_at (HP _ HJ.out.1).out.1 (by omega)
          obtain ⟨bb, ob, e2, cb'⟩ := row_at (HP _ HJ.out.1).out.2 (by omega)
          subst e1 e2
          obtain ⟨W0, hW0⟩ : ∃ W, W = wr := ⟨_, rfl⟩
          obtain ⟨p, hpk⟩ : ∃ p, p = P k := ⟨_, rfl⟩
          obtain ⟨p', hpj⟩ : ∃ p, p = P j := ⟨_, rfl⟩
          obtain ⟨q, hqk⟩ : ∃ q, q = Q k := ⟨_, rfl⟩
          obtain ⟨q', hqj⟩ : ∃ q, q = Q j := ⟨_, rfl⟩
          have K0 : ∀ x : Kept wr.heap.size wr, x.w.cell? ⟨ba, oa + k, none⟩ = some (.int .i64 p) := fun x => by rw [hpk]; exact kold x.h (ca' k hkn)
          have K1 : ∀ x : Kept wr.heap.size wr, x.w.cell? ⟨ba, oa + j, none⟩ = some (.int .i64 p') := fun x => by rw [hpj]; exact kold x.h (ca' j (by omega))
          have K2 : ∀ x : Kept wr.heap.size wr, x.w.cell? ⟨bb, ob + k, none⟩ = some (.int .i64 q) := fun x => by rw [hqk]; exact kold x.h (cb' k hkn)
          have K3 : ∀ x : Kept wr.heap.size wr, x.w.cell? ⟨bb, ob + j, none⟩ = some (.int .i64 q') := fun x => by rw [hqj]; exact kold x.h (cb' j (by omega))
          have HPQ : Hid (p = P k ∧ p' = P j ∧ q = Q k ∧ q' = Q j) := ⟨hpk, hpj, hqk, hqj⟩
          clear ca' cb' hpk hqk hpj hqj hW0
          by_cases c1 : p = p'
          · by_cases c2 : q = q'
            · have HS : Hid ((P k = P j ↔ Q k = Q j)) := (show (P k = P j ↔ Q k = Q j) from by rw [← HPQ.out.1, ← HPQ.out.2.1, ← HPQ.out.2.2.1, ← HPQ.out.2.2.2]; simp [c1, c2])
              subst c1
              subst c2
              go_upto_region 9 with fail
              refine wp_region_kept wr.heap.size (by kernel_rfl) (by kernel_rfl) ?_
              intro hne
              repeat (go_big_quiet_step (fail))
              refine wpQuiet_nil ?_
              rintro u ⟨xk, hxk⟩
              have hR1 := xk.h
              rw [← hxk] at hR1
              have HU : Hid (Below w.heap.size w u) := HJ.out.1.trans (hR1.mono HJ.out.1.size)
              clear hxk xk hne K0 K1 K2 K3 hR1
              go_wp2
              go_roundw
              case rel => exact ⟨j + 1, by omega, by simp, HU.out, fun i hi => by
                by_cases c : i = j
                · subst c; exact HS.out
                · exact HJ.out.2 i (by omega)⟩
              case measure => simp [intOf]; omega
            · have HS : Hid (¬ (P k = P j ↔ Q k = Q j)) := (show ¬ (P k = P j ↔ Q k = Q j) from by rw [← HPQ.out.1, ← HPQ.out.2.1, ← HPQ.out.2.2.1, ← HPQ.out.2.2.2]; simp [c1, c2])
              subst c1
              have e2 : (q == q') = false := by simpa using c2
              replace c2 : Hid _ := c2
              have hs : Hid (t = false) := by
                show t = false
                cases t with
                | false => rfl
                | true => exact absurd ((HT.out.1 rfl).2.2 k j hkn (by omega)) HS.out
              go_upto_region 9 with fail
              refine wp_region_kept wr.heap.size (by kernel_rfl) (by kernel_rfl) ?_
              intro hne
              repeat (go_big_quiet_step (fail))
              refine wpQuiet_nil ?_
              rintro u ⟨xk, hxk⟩
              have hR1 := xk.h
              rw [← hxk] at hR1
              have HU : Hid (Below w.heap.size w u) := HJ.out.1.trans (hR1.mono HJ.out.1.size)
              clear hxk xk hne K0 K1 K2 K3 hR1
              clear HP
              go_wp2
              go_ret
              exact ⟨by rw [hs.out]; rfl, HU.out⟩
          · by_cases c2 : q = q'
            · have HS : Hid (¬ (P k = P j ↔ Q k = Q j)) := (show ¬ (P k = P j ↔ Q k = Q j) from by rw [← HPQ.out.1, ← HPQ.out.2.1, ← HPQ.out.2.2.1, ← HPQ.out.2.2.2]; simp [c1, c2])
              have e1 : (p == p') = false := by simpa using c1
              replace c1 : Hid _ := c1
              subst c2
              have hs : Hid (t = false) := by
                show t = false
                cases t with
                | false => rfl
                | true => exact absurd ((HT.out.1 rfl).2.2 k j hkn (by omega)) HS.out
              go_upto_region 9 with fail
              refine wp_region_kept wr.heap.size (by kernel_rfl) (by kernel_rfl) ?_
              intro hne
              repeat (go_big_quiet_step (fail))
              refine wpQuiet_nil ?_
              rintro u ⟨xk, hxk⟩
              have hR1 := xk.h
              rw [← hxk] at hR1
              have HU : Hid (Below w.heap.size w u) := HJ.out.1.trans (hR1.mono HJ.out.1.size)
              clear hxk xk hne K0 K1 K2 K3 hR1
              clear HP
              go_wp2
              go_ret
              exact ⟨by rw [hs.out]; rfl, HU.out⟩
            · have HS : Hid ((P k = P j ↔ Q k = Q j)) := (show (P k = P j ↔ Q k = Q j) from by rw [← HPQ.out.1, ← HPQ.out.2.1, ← HPQ.out.2.2.1, ← HPQ.out.2.2.2]; simp [c1, c2])
              have e1 : (p == p') = false := by simpa using c1
              replace c1 : Hid _ := c1
              have e2 : (q == q') = false := by simpa using c2
              replace c2 : Hid _ := c2
              go_upto_region 9 with fail
              refine wp_region_kept wr.heap.size (by kernel_rfl) (by kernel_rfl) ?_
              intro hne
              repeat (go_big_quiet_step (fail))
              refine wpQuiet_nil ?_
              rintro u ⟨xk, hxk⟩
              have hR1 := xk.h
              rw [← hxk] at hR1
              have HU : Hid (Below w.heap.size w u) := HJ.out.1.trans (hR1.mono HJ.out.1.size)
              clear hxk xk hne K0 K1 K2 K3 hR1
              go_wp2
              go_roundw
              case rel => exact ⟨j + 1, by omega, by simp, HU.out, fun i hi => by
                by_cases c : i = j
                · subst c; exact HS.out
                · exact HJ.out.2 i (by omega)⟩
              case measure => simp [intOf]; omega
        · obtain rfl : j = k := by omega
          have HF : Hid (Below w.heap.size w wr ∧ ∀ a b, a < j + 1 → b < a → (P a = P b ↔ Q a = Q b)) := ⟨HJ.out.1, fun a b ha hb => by
            by_cases c : a = j
            · subst c; exact HJ.out.2 b hb
            · exact HH.out.2 a b (by omega) hb⟩
          go_wp2
          go_roundw
          case rel => exact ⟨j + 1, by omega, by simp, HF.out⟩
          case measure => simp [intOf]; omega
    · obtain rfl : k = n := by omega
      have hs : Hid (t = true) := HT.out.2 ⟨rfl, by omega, fun i j hi hj => by
        rcases Nat.lt_trichotomy i j with c | c | c
        · have := HH.out.2 j i hj c
          exact ⟨fun e => (this.1 e.symm).symm, fun e => (this.2 e.symm).symm⟩
        · subst c; exact ⟨fun _ => rfl, fun _ => rfl⟩
        · exact HH.out.2 i j hi c⟩
      clear HP
      go_wp2
      go_ret
      exact ⟨by rw [hs.out]; rfl, HH.out.1⟩
set_option maxRecDepth 20000 in
set_option maxHeartbeats 6400000 in
theorem iSame_any {w : World} {ao bo : Option Addr} {n m ca cb : Nat} {P Q : Nat → Int} (hp : RdRow w (.slice ao n ca) n P) (hq : RdRow w (.slice bo m cb) m Q) (wp : ∀ i, i < n → W64 (P i)) (wq : ∀ i, i < m → W64 (Q i)) (hn : n ≤ 1048576) (hm : m ≤ 1048576) (t : Bool) (ht : t = true ↔ Sj n m P Q) :
    Calls Try.prog 50 #[.slice ao n ca, .slice bo m cb] w fun e w' => e = .returned (.bool t) ∧ Below w.heap.size w w' := by
  have HP : ∀ W, Below w.heap.size w W → Hid (RdRow W (.slice ao n ca) n P ∧ RdRow W (.slice bo m cb) m Q) := fun W hb => ⟨hp.later hb, hq.later hb⟩
  have HT : Hid (t = true ↔ Sj n m P Q) := ht
  have HW : Hid ((∀ i, i < n → W64 (P i)) ∧ (∀ i, i < m → W64 (Q i))) := ⟨wp, wq⟩
  clear hp hq ht wp wq
  have hnI : (n : Int) ≤ 1048576 := by omega
  have hmI : (m : Int) ≤ 1048576 := by omega
  by_cases hnm : n = m
  case neg =>
    have hs : Hid (t = false) := by
      show t = false
      cases t with
      | false => rfl
      | true => exact absurd (HT.out.1 rfl).1 hnm
    have hb : ((n : Int) != (m : Int)) = true := by simp; omega
    clear HP hnm
    go_enter Try.func50, Try.ntmps50
    go_wp2
    go_ret
    exact ⟨by rw [hs.out]; rfl, Below.refl _ _⟩
  case pos =>
  subst hnm
  by_cases hlong : 1000 < n
  · have hs : Hid (t = false) := by
      show t = false
      cases t with
      | false => rfl
      | true => exact absurd (HT.out.1 rfl).2.1 (by omega)
    have hlI : (1000 : Int) < n := by omega
    clear HP hlong
    go_enter Try.func50, Try.ntmps50
    go_wp2
    go_ret
    exact ⟨by rw [hs.out]; rfl, Below.refl _ _⟩
  have hlI : (n : Int) ≤ 1000 := by omega
  go_enter Try.func50, Try.ntmps50
  go_wp2_with fail
  refine (numI_any (HP w (Below.refl _ _)).out.1 HW.out.1 hn).mono ?_
  rintro e w1 ⟨v, X, rfl, o1, g1, j1, b1⟩
  have hl := fints_len X n
  obtain ⟨va, vc, rfl⟩ : ∃ ao cap, v = .slice ao n cap := by
    obtain ⟨a, c, e, _⟩ := o1.form
    rw [hl] at e
    exact ⟨a, c, e⟩
  have A1 : Hid (Ol w1 w.heap.size (.slice va n vc) (fints X n) ∧ Nw.RG n X ∧ (∀ a b, a < n → b < n → (X a = X b ↔ P a = P b)) ∧ Below w.heap.size w w1) := ⟨o1, g1, j1, b1⟩
  clear o1 g1 j1 b1 hl
  go_wp2_with fail
  refine (numI_any (HP w1 A1.out.2.2.2).out.2 HW.out.2 hn).mono ?_
  rintro e w2 ⟨v2, Y, rfl, o1, g1, j1, b1⟩
  have hl := fints_len Y n
  obtain ⟨vb, vd, rfl⟩ : ∃ ao cap, v2 = .slice ao n cap := by
    obtain ⟨a, c, e, _⟩ := o1.form
    rw [hl] at e
    exact ⟨a, c, e⟩
  have A2 : Hid (Ol w2 w1.heap.size (.slice vb n vd) (fints Y n) ∧ Nw.RG n Y ∧ (∀ a b, a < n → b < n → (Y a = Y b ↔ Q a = Q b)) ∧ Below w1.heap.size w1 w2) := ⟨o1, g1, j1, b1⟩
  clear o1 g1 j1 b1 hl
  have R1 : Hid (RdRow w2 (.slice va n vc) n X) := by
    have h := (A1.out.1.later A2.out.2.2.2).rd
    rw [fints_len] at h
    exact h.congr fun i hi => fints_at X hi
  have R2 : Hid (RdRow w2 (.slice vb n vd) n Y) := by
    have h := A2.out.1.rd
    rw [fints_len] at h
    exact h.congr fun i hi => fints_at Y hi
  have hT : Hid (t = true ↔ ∀ i, i < n → X i = Y i) := by
    show _ ↔ _
    rw [HT.out]
    refine ⟨fun h => Nw.RG.uniq A1.out.2.1 A2.out.2.1 fun a b ha hb => ?_, fun h => ⟨rfl, by omega, fun i j hi hj => ?_⟩⟩
    · rw [A1.out.2.2.1 a b ha hb, A2.out.2.2.1 a b ha hb]
      exact h.2.2 a b ha hb
    · rw [← A1.out.2.2.1 i j hi hj, ← A2.out.2.2.1 i j hi hj, h i hi, h j hj]
  have HB2 : Hid (Below w.heap.size w w2) := A1.out.2.2.2.trans (A2.out.2.2.2.mono A1.out.2.2.2.size)
  clear HP
  go_wp2_with fail
  refine (equalS_any R1.out R2.out hn t hT.out).mono ?_
  rintro e w3 ⟨rfl, b3⟩
  have HB3 : Hid (Below w.heap.size w w3) := HB2.out.trans (b3.mono HB2.out.size)
  clear b3
  go_wp2
  go_ret
  exact ⟨rfl, HB3.out⟩
end Go.Proofs.Ytclnmikneomccaa
