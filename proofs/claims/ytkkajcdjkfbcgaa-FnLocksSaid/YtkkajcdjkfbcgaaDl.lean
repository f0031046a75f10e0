/- A list and a period drawn for the lock-in. -/
import Derived.Test.YtkkajcdjkfbcgaaDr
import Derived.Test.YtkkajcdjkfbcgaaLk
import Derived.Handy
import Derived.Deep.RegionHeld3
import Derived.Deep.DeepCutAuto
namespace Go.Proofs.Ytkkajcdjkfbcgaa
open Go.RowKit
set_option linter.unusedVariables false
set_option linter.unusedSimpArgs false
theorem il_upd (f : Nat → Int) (k : Nat) (x : Int) : il f k ++ [.int .i64 x] = il (fun i => if i = k then x else f i) (k + 1) := by
  have e : il f k = il (fun i => if i = k then x else f i) k := by
    unfold il
    refine List.map_congr_left fun i hi => ?_
    have : i < k := by simpa using hi
    simp [Nat.ne_of_lt this]
  rw [e]
  have := il_push (fun i => if i = k then x else f i) k
  simpa using this
theorem owns_form1 {w : World} {base n m : Nat} {t : TypeId} {v : Value} {xs : List Value} (h : w.ownsRow base t m v (n + 1) xs) : ∃ g cp, v = .slice (some ⟨g, 0, none⟩) (n + 1) cp := by
  obtain ⟨h0, h | ⟨g, cap, cur, hv, r⟩⟩ := h
  · exact absurd h.2 (by omega)
  · exact ⟨g, cap, hv⟩
theorem owns_bu {w w' : World} {base n m p : Nat} {t : TypeId} {v : Value} {xs : List Value} (h : w.ownsRow base t m v n xs) (k : Bu p w w') (hp : p < base) : w'.ownsRow base t m v n xs := by
  obtain ⟨h0, h | ⟨g, cap, cur, hv, hg, hh, r⟩⟩ := h
  · exact ⟨h0, Or.inl h⟩
  · exact ⟨h0, Or.inr ⟨g, cap, cur, hv, hg, (k.blk g (Array.getElem?_eq_some_iff.1 hh).1 (by omega)).trans hh, r⟩⟩
theorem Src.below' {w0 w w' : World} {v : Value} {a : Int} {p B : Nat} (h : Src w0 w v a p) (k : Below B w w') (hB : w0.heap.size ≤ B) (hp : p < B) : Src w0 w' v a p :=
  ⟨h.below.trans (k.mono hB), h.new, (k.cell (p := ⟨p, 0, none⟩) hp).trans h.code, (k.cell (p := ⟨p, 1, none⟩) hp).trans h.here, (k.frozen (p := ⟨p, 1, none⟩) hp).trans h.free⟩
/-- What stands while the list is drawn. -/
structure Dk (w : World) (v : Value) (a : Int) (Bs : Nat) (k : Nat) (vl : Value) (W : World) : Prop where
  src : Src w W v a w.heap.size
  own : ∃ f, W.ownsRow Bs 2 1 vl k (il f k)
  lt : w.heap.size < Bs ∧ Bs ≤ W.heap.size
set_option maxRecDepth 20000 in
set_option maxHeartbeats 6400000 in
theorem drawLock {w : World} {v : Value} {n : Nat} {g : Nat → Int} (hB : RdB w v n g) (hg : ∀ i, i < n → 0 ≤ g i ∧ g i ≤ 255) (hn : n ≤ 1000000000000) :
    Calls Try.prog 14 #[v] w fun e w' => ∃ (vl : Value) (m : Nat) (f : Nat → Int) (P : Int), e = .returned (.tuple #[vl, .int .i64 P]) ∧ RdRow w' vl m f ∧ m ≤ 40000 ∧ Below w.heap.size w w' := by
  have N : Hid (∀ p, Nexts w v p) := fun p => nexts_of hB hg hn
  obtain ⟨ao, cap, rfl⟩ : ∃ ao cap, v = .slice ao n cap := by
    rcases hB with ⟨ao, cap, rfl, rfl⟩ | ⟨b, off, cap, rfl, _⟩
    · exact ⟨_, _, rfl⟩
    · exact ⟨_, _, rfl⟩
  clear hB hg
  go_enter Try.func14, Try.ntmps14
  go_wp2_with fail
  refine (source_any ao n cap w).mono ?_
  rintro e w0 ⟨rfl, rfl⟩
  have S0 : Hid (Src w (w.alloc (.cells #[.slice ao n cap, .int .i64 0] 132)) (.slice ao n cap) 0 w.heap.size) := src_new w _
  obtain ⟨u0, hu0⟩ : ∃ W, W = w.alloc (.cells #[.slice ao n cap, .int .i64 0] 132) := ⟨_, rfl⟩
  rw [← hu0] at S0 ⊢
  clear hu0
  go_wp2_with fail
  refine (N.out _ _ _ 4 S0.out (by omega) (by omega) (by omega) (by omega)).mono ?_
  rintro e w1 ⟨r1, rfl, a0, a1, hS1, -⟩
  replace hS1 : Hid (Src w w1 (.slice ao n cap) (0 + 1) w.heap.size) := hS1
  clear S0
  go_upto_region 4 with fail
  obtain ⟨w2, hw2⟩ : ∃ W, W = w1.alloc (.cells #[] 2) := ⟨_, rfl⟩
  have D2 : Hid (Dk w (.slice ao n cap) 1 w1.heap.size 0 (.slice (some ⟨w1.heap.size, 0, none⟩) 0 0) w2) := by
    have hh : Dk w (.slice ao n cap) 1 w1.heap.size 0 (.slice (some ⟨w1.heap.size, 0, none⟩) 0 0) w2 := by
      rw [hw2]
      exact ⟨hS1.out.alloc _, ⟨fun _ => 0, owns_empty _ _ _⟩, hS1.out.lt, by simp⟩
    exact hh
  rw [← hw2]
  obtain ⟨Bs, hBs⟩ : ∃ B, B = w1.heap.size := ⟨_, rfl⟩
  rw [← hBs] at D2 ⊢
  clear hw2 hBs hS1
  go_wp2_with fail
  refine (N.out _ _ _ 3 D2.out.src (by omega) (by omega) (by omega) (by omega)).mono ?_
  rintro e w3 ⟨r2, rfl, c0, c1, hS3, hk3⟩
  have D3 : Hid (Dk w (.slice ao n cap) 2 Bs 0 (.slice (some ⟨Bs, 0, none⟩) 0 0) w3) := by
    have hb := bu_next hS3 hk3
    obtain ⟨f, hf⟩ := D2.out.own
    exact ⟨hS3, ⟨f, owns_bu hf hb D2.out.lt.1⟩, D2.out.lt.1, Nat.le_trans D2.out.lt.2 hb.size⟩
  clear hS3 hk3 D2
  obtain ⟨Pq, hPq⟩ : ∃ P : Int, P = (4 * (1 + r1)) * (1 + r2) := ⟨_, rfl⟩
  have pq : 4 ≤ Pq ∧ Pq ≤ 48 := by
    have h1 : r1 = 0 ∨ r1 = 1 ∨ r1 = 2 ∨ r1 = 3 := by omega
    rcases h1 with rfl | rfl | rfl | rfl <;> omega
  have ePq : 4 * (1 + r1) * (1 + r2) = Pq := hPq.symm
  clear hPq
  go_wp2_with fail
  refine (chance_any D3.out.src (N.out _) (by omega) (by omega) 30 (by omega) (by omega)).mono ?_
  rintro e w4 ⟨b, rfl, hS4, hb4⟩
  have D4 : Hid (Dk w (.slice ao n cap) 3 Bs 0 (.slice (some ⟨Bs, 0, none⟩) 0 0) w4) := by
    obtain ⟨f, hf⟩ := D3.out.own
    exact ⟨hS4, ⟨f, owns_bu hf hb4 D3.out.lt.1⟩, D3.out.lt.1, Nat.le_trans D3.out.lt.2 hb4.size⟩
  clear hS4 hb4 D3
  go_upto_if 22 with fail
  go_cut [7] from 22 to 28 (fun x wx => ∃ (NN : Nat) (a : Int), x = .int .i64 (NN : Int) ∧ 4 ≤ NN ∧ NN ≤ 32000 ∧ 3 ≤ a ∧ a ≤ 4 ∧ Hid (Dk w (.slice ao n cap) a Bs 0 (.slice (some ⟨Bs, 0, none⟩) 0 0) wx))
  case first =>
    cases b
    · go_wp2_with fail
      go_meet
      case rel => exact ⟨Pq.toNat, 3, by rw [Int.toNat_of_nonneg (by omega)], by omega, by omega, by omega, by omega, D4⟩
    · go_wp2_with fail
      refine (N.out _ _ _ 2 D4.out.src (by omega) (by omega) (by omega) (by omega)).mono ?_
      rintro e w5 ⟨r3, rfl, d0, d1, hS5, hk5⟩
      have D5 : Hid (Dk w (.slice ao n cap) 4 Bs 0 (.slice (some ⟨Bs, 0, none⟩) 0 0) w5) := by
        have hb := bu_next hS5 hk5
        obtain ⟨f, hf⟩ := D4.out.own
        exact ⟨hS5, ⟨f, owns_bu hf hb D4.out.lt.1⟩, D4.out.lt.1, Nat.le_trans D4.out.lt.2 hb.size⟩
      clear hS5 hk5 D4
      obtain ⟨Q, hQ⟩ : ∃ P : Int, P = (4 * (1 + r1)) * 1000 * (1 + r3) := ⟨_, rfl⟩
      have qb : 4 ≤ Q ∧ Q ≤ 32000 := by
        have h1 : r3 = 0 ∨ r3 = 1 := by omega
        rcases h1 with rfl | rfl <;> omega
      have eQ : 4 * (1 + r1) * 1000 * (1 + r3) = Q := hQ.symm
      clear hQ
      go_wp2_with fail
      go_meet
      case rel => exact ⟨Q.toNat, 4, by rw [Int.toNat_of_nonneg (by omega)], by omega, by omega, by omega, by omega, D5⟩
  case rest =>
    obtain ⟨NN, a, rfl, n4, nm, ha0, ha1, DK⟩ := hcut
    clear D4 ePq pq
    go_wp2_with fail
    go_loopw [6, 8] (fun vl i wx => ∃ (k : Nat) (ao2 : Option Addr) (c2 : Nat), k ≤ NN ∧ i = .int .i64 (k : Int) ∧ vl = .slice ao2 k c2 ∧ Hid (Dk w (.slice ao n cap) (a + k) Bs k vl wx)) (fun _ i _ => NN - (intOf i).toNat)
    case atStart => exact ⟨0, _, _, Nat.zero_le _, rfl, rfl, by rw [show a + ((0 : Nat) : Int) = a by simp]; exact DK⟩
    case round =>
      obtain ⟨k, ao2, c2, hk, rfl, rfl, DK⟩ := hrel
      by_cases hkn : k < NN
      · go_wp2_with fail
        refine (N.out _ _ _ 40 DK.out.src (by omega) (by omega) (by omega) (by omega)).mono ?_
        rintro e w6 ⟨r4, rfl, e0, e1, hS6, hk6⟩
        have D6 : Hid (Dk w (.slice ao n cap) (a + k + 1) Bs k (.slice ao2 k c2) w6) := by
          have hb := bu_next hS6 hk6
          obtain ⟨f, hf⟩ := DK.out.own
          exact ⟨hS6, ⟨f, owns_bu hf hb DK.out.lt.1⟩, DK.out.lt.1, Nat.le_trans DK.out.lt.2 hb.size⟩
        clear hS6 hk6 DK
        obtain ⟨f, hf⟩ := D6.out.own
        have O6 : Hid (w6.ownsRow Bs 2 1 (.slice ao2 k c2) k (il f k)) := hf
        have z6 : Bs ≤ w6.heap.size := D6.out.lt.2
        clear hf
        go_wp2_with (first | (at_builtin; refine push_law rfl (.tmp 34) (.tmp 38) 24 rfl 2 (.int .i64 0) 1 8 Try.underlying24 info2 rfl (by decide) (by decide) w6 [.int .i64 (r4 - 15)] rfl (by intro u hu; simp at hu; subst hu; rfl) Bs _ k _ (by simp [Act.eval]) O6.out 1 (by simp [Act.eval]) (by omega) z6 ?_; intro v1 w7 own7 grow7 nn7; obtain ⟨g', cp', rfl⟩ := owns_form1 own7; have b7 : Below Bs w6 w7 := push_below O6.out grow7 (Below.refl _ _) z6))
        have HQ : Hid (Dk w (.slice ao n cap) (a + ((k + 1 : Nat) : Int)) Bs (k + 1) (.slice (some ⟨g', 0, none⟩) (k + 1) cp') w7) := by
          have hh : Dk w (.slice ao n cap) (a + ((k + 1 : Nat) : Int)) Bs (k + 1) (.slice (some ⟨g', 0, none⟩) (k + 1) cp') w7 := by
            have hl := D6.out.lt
            rw [show a + ((k + 1 : Nat) : Int) = a + k + 1 by omega]
            exact ⟨D6.out.src.below' b7 (by omega) hl.1, ⟨_, by rw [← il_upd]; exact own7⟩, hl.1, Nat.le_trans hl.2 b7.size⟩
          exact hh
        clear own7 grow7 nn7 b7 O6 D6
        go_wp2
        exact ⟨⟨k + 1, _, _, by omega, by simp, rfl, HQ⟩, by simp [intOf]; omega⟩
      · obtain rfl : k = NN := by omega
        go_wp2_with fail
        refine (N.out _ _ _ 12 DK.out.src (by omega) (by omega) (by omega) (by omega)).mono ?_
        rintro e w6 ⟨r5, rfl, e0, e1, hS6, hk6⟩
        have D6 : Hid (Dk w (.slice ao n cap) (a + k + 1) Bs k (.slice ao2 k c2) w6) := by
          have hb := bu_next hS6 hk6
          obtain ⟨f, hf⟩ := DK.out.own
          exact ⟨hS6, ⟨f, owns_bu hf hb DK.out.lt.1⟩, DK.out.lt.1, Nat.le_trans DK.out.lt.2 hb.size⟩
        clear hS6 hk6 DK
        obtain ⟨f, hf⟩ := D6.out.own
        have O6 : Hid (w6.ownsRow Bs 2 1 (.slice ao2 k c2) k (il f k)) := hf
        have z6 : Bs ≤ w6.heap.size := D6.out.lt.2
        clear hf
        by_cases q0 : r5 = 0
        · subst q0
          go_wp2_with fail
          refine (pick_bu (a := a + k + 1) (D6.out.src.alloc _) (N.out _) (by omega) (by omega) w6.heap.size 3 (by omega) (by omega) (by have := D6.out.src.lt; omega) ?_).mono ?_
          · intro i hi
            have : i = 0 ∨ i = 1 ∨ i = 2 := by omega
            rcases this with rfl | rfl | rfl <;> exact ⟨_, Blk.cell (Blk.new rfl) rfl⟩
          rintro e w7 ⟨x, rfl, hS7, hb7⟩
          have O7 : w7.ownsRow Bs 2 1 (.slice ao2 k c2) k (il f k) := owns_bu (O6.out.alloc _) hb7 D6.out.lt.1
          have HB7 : Hid (Below w.heap.size w w7) := hS7.below
          rcases owned_il O7 with ⟨e1', e2'⟩ | ⟨g2, cp2, e1', h1', h2', h3'⟩
          · omega
          cases e1'
          have cc := h3'.cell (i := 0) (by omega)
          rw [Nat.zero_add] at cc
          have ff := h3'.frozen 0
          have HS : Hid (Seg w7 g2 2 0 k (fun i => .int .i64 (f i)) ∧ w.heap.size < g2) := ⟨h3', by have := D6.out.lt.1; omega⟩
          have k1 : (0 : Int) < k := by omega
          clear hS7 hb7 O7 h3' N O6 D6
          go_wp2
          refine bodyPost_ret (v := .tuple #[.slice (some ⟨g2, 0, none⟩) k c2, .int .i64 (4 * (1 + r1))]) (by simp [results, Try.results14, go_sem]) rfl ⟨_, k, fun i => if i = 0 then x else f i, _, rfl, ?_, by omega, HB7.out.setCell (by have := HS.out.2; simp; omega) _⟩
          have h9 := HS.out.1.set 0 (by omega) (.int .i64 x)
          exact Seg.rdI (h9.congr fun i hi => by by_cases e : i = 0 <;> simp [e])
        by_cases q1 : r5 = 1
        · subst q1
          go_wp2_with (first | (at_builtin; refine push_law rfl (.tmp 51) (.tmp 52) 24 rfl 2 (.int .i64 0) 1 8 Try.underlying24 info2 rfl (by decide) (by decide) w6 [.int .i64 1] rfl (by intro u hu; simp at hu; subst hu; rfl) Bs _ k _ (by simp [Act.eval]) O6.out 1 (by simp [Act.eval]) (by omega) z6 ?_; intro v1 w7 own7 grow7 nn7; obtain ⟨g', cp', rfl⟩ := owns_form1 own7; have b7 : Below Bs w6 w7 := push_below O6.out grow7 (Below.refl _ _) z6))
          rw [il_upd] at own7
          have HQ : Hid (RdRow w7 (.slice (some ⟨g', 0, none⟩) (k + 1) cp') (k + 1) (fun i => if i = k then 1 else f i) ∧ Below w.heap.size w w7) := ⟨(owned_il own7).rdI, D6.out.src.below.trans (b7.mono (by have := D6.out.lt; omega))⟩
          clear own7 grow7 nn7 b7 O6 D6 N
          go_wp2
          exact bodyPost_ret (v := .tuple #[.slice (some ⟨g', 0, none⟩) (k + 1) cp', .int .i64 (4 * (1 + r1))]) (by simp [results, Try.results14, go_sem]) rfl ⟨_, k + 1, _, _, rfl, HQ.out.1, by omega, HQ.out.2⟩
        by_cases q2 : r5 = 2
        · subst q2
          go_wp2_with fail
          refine (pick_bu (a := a + k + 1) (D6.out.src.alloc _) (N.out _) (by omega) (by omega) w6.heap.size 6 (by omega) (by omega) (by have := D6.out.src.lt; omega) ?_).mono ?_
          · intro i hi
            have : i = 0 ∨ i = 1 ∨ i = 2 ∨ i = 3 ∨ i = 4 ∨ i = 5 := by omega
            rcases this with rfl | rfl | rfl | rfl | rfl | rfl <;> exact ⟨_, Blk.cell (Blk.new rfl) rfl⟩
          rintro e w7 ⟨x, rfl, hS7, hb7⟩
          have HQ : Hid (RdRow w7 (.slice ao2 k c2) k f ∧ Below w.heap.size w w7) := ⟨(owned_il (owns_bu (O6.out.alloc _) hb7 D6.out.lt.1)).rdI, hS7.below⟩
          clear hS7 hb7 O6 D6 N
          go_wp2
          exact bodyPost_ret (v := .tuple #[.slice ao2 k c2, .int .i64 x]) (by simp [results, Try.results14, go_sem]) rfl ⟨_, k, _, _, rfl, HQ.out.1, by omega, HQ.out.2⟩
        have HQ : Hid (RdRow w6 (.slice ao2 k c2) k f ∧ Below w.heap.size w w6) := ⟨(owned_il O6.out).rdI, D6.out.src.below⟩
        have b0 : (r5 == 0) = false := by simpa using q0
        have b1 : (r5 == 1) = false := by simpa using q1
        have b2 : (r5 == 2) = false := by simpa using q2
        clear O6 D6 N
        by_cases q3 : r5 = 3
        · subst q3
          go_wp2
          exact bodyPost_ret (v := .tuple #[.slice none 0 0, .int .i64 (4 * (1 + r1))]) (by simp [results, Try.results14, go_sem]) rfl ⟨_, 0, fun _ => 0, _, rfl, RdRow.nil _ _, by omega, HQ.out.2⟩
        · have b3 : (r5 == 3) = false := by simpa using q3
          go_wp2
          exact bodyPost_ret (v := .tuple #[.slice ao2 k c2, .int .i64 (4 * (1 + r1))]) (by simp [results, Try.results14, go_sem]) rfl ⟨_, k, _, _, rfl, HQ.out.1, by omega, HQ.out.2⟩
end Go.Proofs.Ytkkajcdjkfbcgaa
