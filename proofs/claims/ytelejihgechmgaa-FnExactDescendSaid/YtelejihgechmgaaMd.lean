/- What Descend answers: compared, marked, held. -/
import Derived.Test.YtelejihgechmgaaOd
import Derived.Test.YtelejihgechmgaaPt
import Derived.Test.YtelejihgechmgaaMarks
namespace Go.Proofs.Ytelejihgechmgaa
open Go.RowKit
set_option linter.unusedVariables false
set_option linter.unusedSimpArgs false
def cnt (c : Int) (n : Nat) : Nat := if c = 0 then n else 0
def OutD (w : World) (c : Int) (pv mv : Value) (d : Nat) (ps : List Mt.Pnt) (ms : List Int) : Prop :=
  ∃ ao cap mo mc, pv = .slice ao (cnt c ps.length) cap ∧ mv = .slice mo (cnt c ms.length) mc ∧ RdMat w (.slice ao (cnt c ps.length) cap) (cnt c ps.length) (fun _ => d) (gd ps) ∧ RdRow w (.slice mo (cnt c ms.length) mc) (cnt c ms.length) (fun i => ms.getD i 0)
theorem OutD.later {w w' : World} {c : Int} {pv mv : Value} {d : Nat} {ps : List Mt.Pnt} {ms : List Int} (h : OutD w c pv mv d ps ms) (hb : Below w.heap.size w w') : OutD w' c pv mv d ps ms := by
  obtain ⟨ao, cap, mo, mc, e1, e2, h1, h2⟩ := h
  exact ⟨ao, cap, mo, mc, e1, e2, h1.later hb, h2.later hb⟩
theorem OwD.rd {lo hi : Nat} {w : World} {c : Int} {pv mv : Value} {d : Nat} {ps : List Mt.Pnt} {ms : List Int} (h : OwD lo hi w c pv mv d ps ms) : OutD w c pv mv d ps ms := by
  rcases h with ⟨h0, e1, e2⟩ | ⟨h0, m, g2, cap, e1, e2, h1, h2, h3, h4, h5⟩
  · have z : ∀ n, cnt c n = 0 := fun n => by unfold cnt; rw [if_neg h0]
    refine ⟨none, 0, none, 0, by rw [z]; exact e1, by rw [z]; exact e2, ?_, ?_⟩
    · rw [z]; exact RdMat.nil _ _ _
    · rw [z]; exact RdRow.nil _ _
  · have z : ∀ n, cnt c n = n := fun n => by unfold cnt; rw [if_pos h0]
    refine ⟨_, _, _, _, by rw [z]; exact e1, by rw [z]; exact e2, ?_, ?_⟩
    · rw [z]; exact h1.rd
    · rw [z]; exact h4.rd
theorem eqD_any {w : World} {c : Int} {pv mv pv' mv' : Value} {d : Nat} {ps : List Mt.Pnt} {ms : List Int} (h : OutD w c pv mv d ps ms) (h' : OutD w c pv' mv' d ps ms) (hn : cnt c ps.length ≤ 1048576) (hd : d ≤ 1048576) (hm : cnt c ms.length ≤ 1048576) :
    Calls Try.prog 39 #[.agg #[.int .i64 c, pv, mv], .agg #[.int .i64 c, pv', mv']] w fun e w' => e = .returned (.bool true) ∧ Below w.heap.size w w' := by
  obtain ⟨ao, cap, mo, mc, rfl, rfl, h1, h2⟩ := h
  obtain ⟨ao', cap', mo', mc', rfl, rfl, h1', h2'⟩ := h'
  exact eqPath_any ⟨h1, h2⟩ ⟨h1', h2'⟩ hn (fun _ _ => hd) hm
def MkdD (lo hi : Nat) (w : World) (c : Int) (pv mv : Value) (d N K : Nat) (r : Int) : Prop :=
  (c ≠ 0 ∧ pv = .slice none 0 0 ∧ mv = .slice none 0 0 ∧ r = 1) ∨ (c = 0 ∧ r = 1 + Sm (fun _ => d) N + K ∧ ∃ m g2 cap, pv = .slice (some ⟨m.b, 0, none⟩) N m.cap ∧ mv = .slice (some ⟨g2, 0, none⟩) K cap ∧ Mat lo hi w m N (fun _ => d) (fun i j => 1 + Sm (fun _ => d) i + j) ∧ lo ≤ g2 ∧ g2 < hi ∧ Seg w g2 2 0 K (fun i => .int .i64 (1 + Sm (fun _ => d) N + i)))
theorem MkdD.pos {lo hi : Nat} {w : World} {c : Int} {pv mv : Value} {d N K : Nat} {r : Int} (h : MkdD lo hi w c pv mv d N K r) : 0 ≤ r := by
  rcases h with h | ⟨_, h, _⟩ <;> omega
theorem MkdD.keep {lo hi : Nat} {w w' : World} {c : Int} {pv mv : Value} {d N K : Nat} {r : Int} (h : MkdD lo hi w c pv mv d N K r) (hk : Keep lo hi w w') : MkdD lo hi w' c pv mv d N K r := by
  rcases h with h | ⟨h0, hr, m, g2, cap, e1, e2, h1, h2, h3, h4⟩
  · exact Or.inl h
  · exact Or.inr ⟨h0, hr, m, g2, cap, e1, e2, h1.keep hk, h2, h3, h4.of_block (hk _ h2 h3)⟩
set_option maxHeartbeats 1600000 in
theorem markSS_but {lo hi : Nat} {w : World} {m : Lie} {n : Nat} {L : Nat → Nat} {F : Rm.Mx} (h : Mat lo hi w m n L F) (k0 : Int) (h0 : 0 ≤ k0) (h1 : k0 + n + Sm L n ≤ 100000000000) :
    Calls Try.prog 78 #[.slice (some ⟨m.b, 0, none⟩) n m.cap, .int .i64 k0] w fun e w' => e = .returned (.int .i64 (k0 + Sm L n)) ∧
      Mat lo hi w' m n L (fun i j => k0 + Sm L i + j) ∧ Within lo hi w w' ∧ w'.heap.size = w.heap.size ∧ (∀ b, b < w.heap.size → (∀ i, i < n → m.bs i ≠ b) → w'.heap[b]? = w.heap[b]?) := by
  have H0 : Hid (Mat lo hi w m n L F) := h
  clear h
  go_enter Try.func78, Try.ntmps78
  go_wp2_with fail
  go_loopw [1, 5] (fun q i wr => ∃ k : Nat, k ≤ n ∧ i = .int .i64 k ∧ q = .int .i64 (k0 + Sm L k) ∧ Mat lo hi wr m n L (fun r c => if r < k then k0 + Sm L r + c else F r c) ∧ Within lo hi w wr ∧ wr.heap.size = w.heap.size ∧ (∀ b, b < w.heap.size → (∀ i, i < n → m.bs i ≠ b) → wr.heap[b]? = w.heap[b]?)) (fun _ i _ => n - (intOf i).toNat)
  case atStart => exact ⟨0, Nat.zero_le _, rfl, by simp [Sm], H0.out.congr (fun i j _ _ => by simp), Within.refl _ _ _, rfl, fun b _ _ => rfl⟩
  case round =>
    obtain ⟨k, hk, rfl, rfl, hs, hb, hz, hu⟩ := hrel
    clear H0
    have hle := Sm_le (L := L) hk
    by_cases hkn : k < n
    · have g2 : wr.cell? ⟨m.b, k, none⟩ = some (.slice (some ⟨m.bs k, m.os k, none⟩) (L k) (m.cs k)) := hs.cellTop hkn
      have gs := hs.row k hkn
      have hle2 := Sm_le (L := L) (show k + 1 ≤ n by omega)
      rw [Sm] at hle2
      have HS : Hid (Mat lo hi wr m n L (fun r c => if r < k then k0 + Sm L r + c else F r c) ∧ Within lo hi w wr ∧ wr.heap.size = w.heap.size ∧ (∀ b, b < w.heap.size → (∀ i, i < n → m.bs i ≠ b) → wr.heap[b]? = w.heap[b]?)) := ⟨hs, hb, hz, hu⟩
      clear hs hb hz hu
      go_wp2_with fail
      refine (markS_some _ _ _ _ _ _ _ (by omega) (by omega) gs).mono ?_
      rintro e w1 ⟨rfl, hr, hb1, hz1⟩
      have HR : Hid (Mat lo hi w1 m n L (fun r c => if r < k + 1 then k0 + Sm L r + c else F r c) ∧ Within lo hi w w1 ∧ w1.heap.size = w.heap.size ∧ (∀ b, b < w.heap.size → (∀ i, i < n → m.bs i ≠ b) → w1.heap[b]? = w.heap[b]?)) := by
        obtain ⟨hs, hb, hz, hu⟩ := HS.out
        refine ⟨(hs.anew hkn (G := fun j => k0 + Sm L k + j) hb1 hr).congr fun i j _ _ => ?_, hb.trans (hb1.mono (hs.rlo k hkn) (hs.rhi k hkn)), by omega, fun b q1 q2 => if q4 : b < m.bs k then (hb1.below.block b q4).trans (hu b q1 q2) else (hb1.above b (by have := q2 k hkn; omega) (by omega)).trans (hu b q1 q2)⟩
        by_cases e : i = k
        · subst e; simp
        · by_cases e2 : i < k
          · simp [e, e2, Nat.lt_succ_of_lt e2]
          · simp [e, e2]; intro h; omega
      clear HS gs hr hb1 hz1
      go_wp2
      go_roundw
      case rel => exact ⟨k + 1, by omega, by simp, by simp only [Sm, Int.natCast_add, Int.add_assoc], HR.out⟩
      case measure => simp [intOf]; omega
    · obtain rfl : k = n := by omega
      go_wp2
      go_ret
      exact ⟨rfl, hs.congr fun i j hi _ => by simp [hi], hb, hz, hu⟩
theorem Mat.other {lo hi g : Nat} {w w' : World} {m : Lie} {n : Nat} {L : Nat → Nat} {F : Rm.Mx} (h : Mat lo hi w m n L F) (hw : Within g (g + 1) w w') (hg : g < w.heap.size) (hb : m.b ≠ g) (hr : ∀ i, i < n → m.bs i ≠ g) : Mat lo hi w' m n L F := by
  have q : ∀ b, b < w.heap.size → b ≠ g → w'.heap[b]? = w.heap[b]? := fun b q1 q2 => by
    by_cases q3 : b < g
    · exact hw.below.block b q3
    · exact hw.above b (by omega) q1
  exact ⟨h.top.of_block (q _ h.top.lt hb), fun i hi => (h.row i hi).of_block (q _ (h.row i hi).lt (hr i hi)), h.blo, h.bhi, h.rlo, h.rhi, h.apart⟩
set_option maxRecDepth 20000 in
set_option maxHeartbeats 3200000 in
theorem markD_any {lo hi : Nat} {w : World} {c : Int} {pv mv : Value} {d : Nat} {ps : List Mt.Pnt} {ms : List Int} (h : OwD lo hi w c pv mv d ps ms) (hN : c = 0 → ps.length * d + ms.length + ps.length ≤ 1000000) (hlo : lo ≤ w.heap.size) (hhi : hi ≤ w.heap.size) :
    Calls Try.prog 42 #[.agg #[.int .i64 c, pv, mv], .int .i64 1] w fun e w' => ∃ r, e = .returned (.int .i64 r) ∧ MkdD lo hi w' c pv mv d ps.length ms.length r ∧ Within lo hi w w' := by
  rcases h with ⟨h0, rfl, rfl⟩ | ⟨rfl, m, g2, cap, rfl, rfl, h1, h2, h3, h4, h5⟩
  · obtain ⟨X, hX⟩ : ∃ X, X = w.alloc (.cells #[.int .i64 c, .slice none 0 0, .slice none 0 0] 55) := ⟨_, rfl⟩
    have BX : Hid (Blk X w.heap.size #[.int .i64 c, .slice none 0 0, .slice none 0 0] 55 ∧ Within lo hi w X) := by rw [hX]; exact ⟨Blk.new rfl, (Within.refl _ _ _).alloc hlo _⟩
    have a1 := BX.out.1.cell (j := 1) (v := .slice none 0 0) rfl
    have a2 := BX.out.1.cell (j := 2) (v := .slice none 0 0) rfl
    go_enter Try.func42, Try.ntmps42
    go_wp2_with fail
    rw [← hX]
    clear hX
    go_wp2_with (first | (go_at_call 78; refine (markSS_none none 0 1 _).mono ?_; rintro e w1 ⟨rfl, rfl⟩) | (go_at_call 41; refine (markS_none none 0 1 _).mono ?_; rintro e w2 ⟨rfl, rfl⟩))
    go_ret
    exact ⟨1, rfl, Or.inl ⟨h0, rfl, rfl, rfl⟩, BX.out.2⟩
  · have hN0 := hN rfl
    rw [← Sm_const] at hN0
    obtain ⟨X, hX⟩ : ∃ X, X = w.alloc (.cells #[.int .i64 0, .slice (some ⟨m.b, 0, none⟩) ps.length m.cap, .slice (some ⟨g2, 0, none⟩) ms.length cap] 55) := ⟨_, rfl⟩
    have hb : Below w.heap.size w X := by rw [hX]; exact (Below.refl _ _).alloc (Nat.le_refl _) _
    have hk : Keep lo hi w X := keep_below hb hhi
    have BX : Hid (Blk X w.heap.size #[.int .i64 0, .slice (some ⟨m.b, 0, none⟩) ps.length m.cap, .slice (some ⟨g2, 0, none⟩) ms.length cap] 55 ∧ Within lo hi w X) := by rw [hX]; exact ⟨Blk.new rfl, (Within.refl _ _ _).alloc hlo _⟩
    have HM := markSS_but (h1.keep hk) 1 (by omega) (by omega)
    have HS : Hid (Seg X g2 2 0 ms.length (fun i => .int .i64 (ms.getD i 0))) := h4.of_block (hk _ h2 h3)
    have a1 := BX.out.1.cell (j := 1) (v := .slice (some ⟨m.b, 0, none⟩) ps.length m.cap) rfl
    have hN1 : Hid (1 + (Sm (fun _ => d) ps.length : Int) + ms.length ≤ 1000001) := by show _ ≤ _; omega
    have HH : Hid (lo ≤ g2 ∧ g2 < hi ∧ hi ≤ w.heap.size ∧ ∀ i, i < ps.length → m.bs i ≠ g2) := ⟨h2, h3, hhi, h5⟩
    clear h1 h2 h3 h4 h5 hk hN hN0 hhi hb
    go_enter Try.func42, Try.ntmps42
    go_wp2_with fail
    rw [← hX]
    clear hX
    go_upto_region 2 with (first | (go_at_call 78; refine HM.mono ?_; rintro e w1 ⟨rfl, hm1, hw1, hz1, hu1⟩))
    have hlt := HS.out.lt
    have hS1 : Seg w1 g2 2 0 ms.length (fun i => .int .i64 (ms.getD i 0)) := HS.out.of_block (hu1 _ hlt HH.out.2.2.2)
    have hB1 : Blk w1 w.heap.size #[.int .i64 0, .slice (some ⟨m.b, 0, none⟩) ps.length m.cap, .slice (some ⟨g2, 0, none⟩) ms.length cap] 55 := BX.out.1.within hw1 (by have := HH.out.2.2.1; omega)
    have a2 := hB1.cell (j := 2) (v := .slice (some ⟨g2, 0, none⟩) ms.length cap) rfl
    obtain ⟨K, hK⟩ : ∃ K : Int, K = 1 + (Sm (fun _ => d) ps.length : Int) := ⟨_, rfl⟩
    have HM2 := markS_some g2 0 ms.length cap (fun i => ms.getD i 0) K w1 (by omega) (by have := hN1.out; omega) hS1
    have HK : Hid (K = 1 + (Sm (fun _ => d) ps.length : Int)) := hK
    have HZ : Hid (Mat lo hi w1 m ps.length (fun _ => d) (fun i j => 1 + Sm (fun _ => d) i + j) ∧ Within lo hi X w1 ∧ g2 < w1.heap.size ∧ m.b ≠ g2) := ⟨hm1, hw1, hS1.lt, hm1.top.ne hS1 (by decide)⟩
    rw [← hK]
    clear hm1 hw1 hz1 hu1 hS1 hB1 hlt hK a1
    go_wp2_with (first | (go_at_call 41; refine HM2.mono ?_; rintro e w2 ⟨rfl, hs2, hw2, hz2⟩))
    go_ret
    refine ⟨K + ms.length, rfl, Or.inr ⟨rfl, by rw [HK.out], m, g2, cap, rfl, rfl, HZ.out.1.other hw2 HZ.out.2.2.1 HZ.out.2.2.2 HH.out.2.2.2, HH.out.1, HH.out.2.1, ?_⟩, (BX.out.2.trans HZ.out.2.1).trans (hw2.mono HH.out.1 HH.out.2.1)⟩
    rw [← HK.out]
    exact hs2
set_option maxRecDepth 20000 in
set_option maxHeartbeats 3200000 in
theorem heldD_any {lo hi : Nat} {w : World} {c : Int} {pv mv : Value} {d N K : Nat} {r : Int} (h : MkdD lo hi w c pv mv d N K r) (hN : c = 0 → N * d + K + N ≤ 1000000) (hhi : hi ≤ w.heap.size) :
    Calls Try.prog 43 #[.agg #[.int .i64 c, pv, mv], .int .i64 1] w fun e w' => e = .returned (.int .i64 r) ∧ Below w.heap.size w w' := by
  rcases h with ⟨h0, rfl, rfl, rfl⟩ | ⟨rfl, hr, m, g2, cap, rfl, rfl, h1, h2, h3, h4⟩
  · obtain ⟨X, hX⟩ : ∃ X, X = w.alloc (.cells #[.int .i64 c, .slice none 0 0, .slice none 0 0] 55) := ⟨_, rfl⟩
    have BX : Hid (Blk X w.heap.size #[.int .i64 c, .slice none 0 0, .slice none 0 0] 55 ∧ Below w.heap.size w X) := by rw [hX]; exact ⟨Blk.new rfl, (Below.refl _ _).alloc (Nat.le_refl _) _⟩
    have a1 := BX.out.1.cell (j := 1) (v := .slice none 0 0) rfl
    have a2 := BX.out.1.cell (j := 2) (v := .slice none 0 0) rfl
    go_enter Try.func43, Try.ntmps43
    go_wp2_with fail
    rw [← hX]
    clear hX
    go_wp2_with (first | (go_at_call 79; refine (heldSS_none none 0 1 _).mono ?_; rintro e w1 ⟨rfl, rfl⟩) | (go_at_call 60; refine (heldS_none none 0 1 _).mono ?_; rintro e w2 ⟨rfl, rfl⟩))
    go_ret
    exact ⟨rfl, BX.out.2⟩
  · have hN0 := hN rfl
    rw [← Sm_const] at hN0
    obtain ⟨X, hX⟩ : ∃ X, X = w.alloc (.cells #[.int .i64 0, .slice (some ⟨m.b, 0, none⟩) N m.cap, .slice (some ⟨g2, 0, none⟩) K cap] 55) := ⟨_, rfl⟩
    have hb : Below w.heap.size w X := by rw [hX]; exact (Below.refl _ _).alloc (Nat.le_refl _) _
    have hk : Keep lo hi w X := keep_below hb hhi
    have BX : Hid (Blk X w.heap.size #[.int .i64 0, .slice (some ⟨m.b, 0, none⟩) N m.cap, .slice (some ⟨g2, 0, none⟩) K cap] 55 ∧ Below w.heap.size w X) := by refine ⟨?_, hb⟩; rw [hX]; exact Blk.new rfl
    have HM := heldSS_some 1 (h1.keep hk) (by omega) (by omega)
    have HS : Hid (Seg X g2 2 0 K (fun i => .int .i64 (1 + Sm (fun _ => d) N + i))) := h4.of_block (hk _ h2 h3)
    have a1 := BX.out.1.cell (j := 1) (v := .slice (some ⟨m.b, 0, none⟩) N m.cap) rfl
    have a2 := BX.out.1.cell (j := 2) (v := .slice (some ⟨g2, 0, none⟩) K cap) rfl
    obtain ⟨k, hk1⟩ : ∃ k : Int, k = 1 + (Sm (fun _ => d) N : Int) := ⟨_, rfl⟩
    have hk2 : 1 ≤ k := by omega
    have hk3 : k + (K : Int) ≤ 1000001 := by omega
    have HR : Hid (r = k + K) := by show r = k + K; rw [hr, hk1]
    have HC : ∀ i : Nat, i < K → X.cell? ⟨g2, 0 + i, none⟩ = some (.int .i64 (k + i)) := fun i hi => by rw [HS.out.cell hi, hk1]
    have HM2 := heldS_some g2 0 K cap k X (by omega) (by omega) HC
    rw [← hk1] at HM
    have hkn : ¬ k < 0 := by omega
    have hkn2 : ¬ k + (K : Int) < 0 := by omega
    clear h1 h2 h3 h4 hk hN hN0 hhi hb hr hk1 HC
    go_enter Try.func43, Try.ntmps43
    go_wp2_with fail
    rw [← hX]
    clear hX
    go_wp2_with (first | (go_at_call 79; refine HM.mono ?_; rintro e w1 ⟨rfl, rfl⟩) | (go_at_call 60; refine HM2.mono ?_; rintro e w2 ⟨rfl, rfl⟩))
    go_ret
    exact ⟨by rw [HR.out]; first | done | rfl, BX.out.2⟩
end Go.Proofs.Ytelejihgechmgaa
