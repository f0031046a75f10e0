/- NeighboursOf of both packages: contracts. -/
import Derived.Test.YtfpklfpcencimaaNb
import Derived.Test.YtfpklfpcencimaaNr
namespace Go.Proofs.Ytfpklfpcencimaa
open Go.RowKit
set_option linter.unusedVariables false
set_option linter.unusedSimpArgs false
theorem ownsV_low {w : World} {base base' n m : Nat} {t : TypeId} {v : Value} {xs : List Value} (h : w.ownsRow base t m v n xs) (hb : base' ≤ base) : w.ownsRow base' t m v n xs := by
  obtain ⟨h0, h1 | ⟨g, cap, cur, hv, hg, r⟩⟩ := h
  · exact ⟨h0, Or.inl h1⟩
  · exact ⟨h0, Or.inr ⟨g, cap, cur, hv, Nat.le_trans hb hg, r⟩⟩
/-- What append has built of pairs owns its block. -/
theorem owned_in {w : World} {base : Nat} {v : Value} {xs : List (Int × Int)} (h : w.ownsRow base 62 2 v xs.length (fl xs)) : (xs = [] ∧ v = .slice none 0 0) ∨ ∃ g cap, v = .slice (some ⟨g, 0, none⟩) xs.length cap ∧ base ≤ g ∧ g < w.heap.size ∧ SegV w g 62 xs.length 2 (scl xs) := by
  rcases owned_pairs h with h | ⟨g, cap, e, h1, h2⟩
  · exact Or.inl h
  · exact Or.inr ⟨g, cap, e, h1, h2.lt, h2⟩
set_option maxRecDepth 20000 in
set_option maxHeartbeats 1600000 in
theorem sNear_any {w : World} {ao : Option Addr} {nf cp : Nat} {nodes slots : Int} {F : Nat → Fb} (v : Int) (h : Rf w (.slice ao nf cp) nf F) (hf : nf ≤ 1048576) :
    Calls Try.prog 27 #[.agg #[.int .i64 nodes, .int .i64 slots, .slice ao nf cp], .int .i64 v] w fun e w' => ∃ l, e = .returned l ∧ w'.ownsRow w.heap.size 62 2 l (Nt.near F v nf).length (fl (Nt.near F v nf)) ∧ Below w.heap.size w w' := by
  obtain ⟨X, hX⟩ : ∃ X, X = w.alloc (.cells #[.int .i64 nodes, .int .i64 slots, .slice ao nf cp] 32) := ⟨_, rfl⟩
  have BX : Hid (Blk X w.heap.size #[.int .i64 nodes, .int .i64 slots, .slice ao nf cp] 32 ∧ Below w.heap.size w X) := by
    rw [hX]
    exact ⟨Blk.new rfl, (Below.refl _ _).alloc (Nat.le_refl _) _⟩
  have hXz : w.heap.size < X.heap.size := BX.out.1.lt
  have H : ∀ W, Below X.heap.size X W → Hid (Rf W (.slice ao nf cp) nf F) := fun W hb => h.later (BX.out.2.trans (hb.mono (by omega)))
  have hfI : (nf : Int) ≤ 1048576 := by omega
  clear h
  obtain ⟨Y, hY⟩ : ∃ Y, Y = X.alloc (.cells #[] 62) := ⟨_, rfl⟩
  have HY : Hid (Y.ownsRow X.heap.size 62 2 (.slice (some ⟨w.heap.size + 1, 0, none⟩) 0 0) 0 [] ∧ Below X.heap.size X Y) := by rw [hY, show w.heap.size + 1 = X.heap.size by rw [hX]; simp]; exact ⟨ownsV_empty X 62 2, (Below.refl _ _).alloc (Nat.le_refl _) _⟩
  go_enter Try.func27, Try.ntmps27
  go_wp2_with fail
  rw [← hX]
  clear hX
  go_wp2_with fail
  rw [← hY]
  clear hY
  go_loopw [5, 6] (fun s5 s6 wr => ∃ k : Nat, k ≤ nf ∧ s6 = .int .i64 k ∧ Hid (wr.ownsRow X.heap.size 62 2 s5 (Nt.near F v k).length (fl (Nt.near F v k)) ∧ Below X.heap.size X wr)) (fun _ i _ => nf - (intOf i).toNat)
  case atStart => exact ⟨0, Nat.zero_le _, rfl, HY.out.1, HY.out.2⟩
  case round =>
    obtain ⟨k, hk, rfl, HG⟩ := hrel
    have y2 := (BX.out.1.old HG.out.2).cell (j := 2) rfl
    have hkI : (k : Int) ≤ nf := by omega
    by_cases hkn : k < nf
    · have hkJ : (k : Int) < nf := by omega
      obtain ⟨b, off, rfl, hc⟩ := (H wr HG.out.2).out.at hkn
      have f0 : wr.cell? ⟨b, off + k * 3, none⟩ = some (.int .i64 (F k).a) := hc 0 (by omega)
      have f1 : wr.cell? ⟨b, off + k * 3 + 1, none⟩ = some (.int .i64 (F k).b) := hc 1 (by omega)
      have f2 : wr.cell? ⟨b, off + k * 3 + 2, none⟩ = some (.int .i64 (F k).km) := hc 2 (by omega)
      clear hc
      go_wp2_with fail
      refine (sOth_any (F k) v wr).mono ?_
      rintro e w2 ⟨rfl, hb2⟩
      have H2 : Hid (w2.ownsRow X.heap.size 62 2 u5 (Nt.near F v k).length (fl (Nt.near F v k)) ∧ Below X.heap.size X w2) := ⟨ownsV_later HG.out.1 hb2, box_step HG.out.2 hb2 (Nat.le_refl _)⟩
      have hws : X.heap.size ≤ w2.heap.size := H2.out.2.size
      clear hb2 y2 f0 f1 f2
      obtain ⟨o, ho⟩ : ∃ o, o = Nt.oth (F k) v := ⟨_, rfl⟩
      have HO : Hid (o = Nt.oth (F k) v) := ho
      rw [← ho]
      clear ho
      by_cases h0 : 0 ≤ o
      · have hd : decide (0 ≤ o) = true := by simpa using h0
        have E : Hid (Nt.near F v (k + 1) = Nt.near F v k ++ [(o, (k : Int))]) := by show _ = _; rw [Nt.near_hit (HO.out ▸ h0), HO.out]
        have hcI : (Nt.near F v k).length ≤ 1000000000 := by have := Nt.near_len (F := F) (v := v) k; omega
        clear h0
        go_wp2_with (first | (at_builtin; go_loud (refine pushV rfl (.tmp 25) (.tmp 29) 26 rfl 62 (.agg #[.int .i64 0, .int .i64 0]) 2 16 Try.underlying26 info62 rfl (by decide) (by decide) _ [.int .i64 o, .int .i64 k] rfl (by simp [Value.oneCell']) X.heap.size u5 (Nt.near F v k).length (fl (Nt.near F v k)) (by simp [Act.eval]) H2.out.1 1 (by simp [Act.eval]) hcI hws ?_; intro v1 w3 own3 grow3 nn3)))
        have H3 : Hid (w3.ownsRow X.heap.size 62 2 v1 (Nt.near F v (k + 1)).length (fl (Nt.near F v (k + 1))) ∧ Below X.heap.size X w3) := by
          refine ⟨?_, pushV_below H2.out.1 grow3 H2.out.2 hws⟩
          rw [E.out, fl_snoc, List.length_append]
          exact own3
        clear own3 grow3 nn3
        go_wp2
        go_roundw
        case rel => exact ⟨k + 1, by omega, by simp, H3⟩
        case measure => simp [intOf]; omega
      · have hd : decide (0 ≤ o) = false := by simpa using h0
        have H3 : Hid (w2.ownsRow X.heap.size 62 2 u5 (Nt.near F v (k + 1)).length (fl (Nt.near F v (k + 1))) ∧ Below X.heap.size X w2) := by
          show _ ∧ _
          rw [Nt.near_skip (HO.out ▸ h0)]
          exact H2.out
        clear h0
        go_wp2
        go_roundw
        case rel => exact ⟨k + 1, by omega, by simp, H3⟩
        case measure => simp [intOf]; omega
    · obtain rfl : k = nf := by omega
      have HE : Hid (wr.ownsRow w.heap.size 62 2 u5 (Nt.near F v k).length (fl (Nt.near F v k)) ∧ Below w.heap.size w wr) := ⟨ownsV_low HG.out.1 (by omega), BX.out.2.trans (HG.out.2.mono (by omega))⟩
      clear HG
      go_wp2
      go_ret
      exact ⟨_, rfl, HE.out⟩
end Go.Proofs.Ytfpklfpcencimaa
