/- A way that begins: contract. -/
import Derived.Test.YtfpklfpcencimaaWg
import Derived.Test.YtfpklfpcencimaaRw
namespace Go.Proofs.Ytfpklfpcencimaa
open Go.RowKit Go.Conc
set_option linter.unusedVariables false
set_option linter.unusedSimpArgs false
set_option maxRecDepth 20000 in
set_option maxHeartbeats 3200000 in
theorem wayFrom_any {w : World} {nodes slots : Int} {ao : Option Addr} {nf cp : Nat} (fr : Int) :
    Calls Try.prog 42 #[.agg #[.int .i64 nodes, .int .i64 slots, .slice ao nf cp], .int .i64 fr] w fun e w' => ∃ g c0 c1 c2, e = .returned (.agg #[.int .i64 nodes, .int .i64 slots, .slice ao nf cp, .slice (some ⟨g, 0, none⟩) 1 1, .slice none 0 0, .chan (some c0), .chan (some c1), .chan (some c2)]) ∧
      Ol w' w.heap.size (.slice (some ⟨g, 0, none⟩) 1 1) [fr] ∧ w.heap.size ≤ g ∧ Chn w' c0 ∧ Chn w' c1 ∧ Chn w' c2 ∧ c0 ≠ c1 ∧ c0 ≠ c2 ∧ c1 ≠ c2 ∧ w.heap.size ≤ c0 ∧ w.heap.size ≤ c1 ∧ w.heap.size ≤ c2 ∧ Below w.heap.size w w' := by
  have hmc := mk1
  obtain ⟨X, hX⟩ : ∃ X, X = (w.alloc (.cells #[.int .i64 nodes, .int .i64 slots, .slice ao nf cp] 32)).alloc (.cells #[.int .i64 0, .int .i64 0, .slice none 0 0, .slice none 0 0, .slice none 0 0, .chan none, .chan none, .chan none] 82) := ⟨_, rfl⟩
  have BX : Hid (Blk X w.heap.size #[.int .i64 nodes, .int .i64 slots, .slice ao nf cp] 32 ∧ Blk X (w.heap.size + 1) #[.int .i64 0, .int .i64 0, .slice none 0 0, .slice none 0 0, .slice none 0 0, .chan none, .chan none, .chan none] 82 ∧ Below w.heap.size w X) := by
    rw [hX]
    exact ⟨(Blk.new rfl).alloc _, Blk.new (by simp), ((Below.refl _ _).alloc (Nat.le_refl _) _).alloc (by simp) _⟩
  have hXz : w.heap.size + 1 < X.heap.size := BX.out.2.1.lt
  go_enter Try.func42, Try.ntmps42
  go_upto_region 1 with fail
  rw [← hX]
  clear hX
  go_cut [5] (fun p wx => ∃ tb c0 c1 c2 : Nat, p = .pointer (some ⟨tb, 0, none⟩) ∧ Hid (BoxC X wx tb c0 c1 c2))
  case first =>
    clear BX
    go_region
    all_goals
      go_wp2_with fail
      go_meet
      case rel =>
        first
          | exact ⟨_, _, _, _, rfl, boxc3 X _ _ _ (by omega) (by omega) (by omega) ⟨by omega, by omega, by omega⟩⟩
          | exact ⟨_, _, _, _, rfl, boxc2 X _ _ _ (by omega) (by omega) (by omega) ⟨by omega, by omega, by omega⟩⟩
          | exact ⟨_, _, _, _, rfl, boxc1 X _ _ _ (by omega) (by omega) (by omega) ⟨by omega, by omega, by omega⟩⟩
          | exact ⟨_, _, _, _, rfl, boxc0 X _ _ _ (by omega) (by omega) (by omega) ⟨by omega, by omega, by omega⟩⟩
  case rest =>
    obtain ⟨tb, c0, c1, c2, rfl, HC⟩ := hcut
    obtain ⟨Y, hY⟩ : ∃ Y, Y = wc.alloc (.cells #[.int .i64 fr] 2) := ⟨_, rfl⟩
    have hs := HC.out.2.2.2.2.size
    have hbw : Below w.heap.size w wc := BX.out.2.2.trans (HC.out.2.2.2.2.mono (by omega))
    have y0 := (BX.out.1.old HC.out.2.2.2.2).cell (j := 0) (v := .int .i64 nodes) rfl
    have y1 := (BX.out.1.old HC.out.2.2.2.2).cell (j := 1) (v := .int .i64 slots) rfl
    have y2 := (BX.out.1.old HC.out.2.2.2.2).cell (j := 2) (v := .slice ao nf cp) rfl
    have yl := (BX.out.1.old HC.out.2.2.2.2).lt
    have t0 := HC.out.1.cell (j := 0) (v := .chan (some c0)) rfl
    have t1 := HC.out.1.cell (j := 1) (v := .chan (some c1)) rfl
    have t2 := HC.out.1.cell (j := 2) (v := .chan (some c2)) rfl
    have tl := HC.out.1.lt
    have R0 : Hid (Blk wc (w.heap.size + 1) #[.int .i64 0, .int .i64 0, .slice none 0 0, .slice none 0 0, .slice none 0 0, .chan none, .chan none, .chan none] 82) := BX.out.2.1.old HC.out.2.2.2.2
    clear hmc
    have RY : Hid (Blk (wc.alloc (.cells #[.int .i64 fr] 2)) (w.heap.size + 1) #[.int .i64 0, .int .i64 0, .slice none 0 0, .slice none 0 0, .slice none 0 0, .chan none, .chan none, .chan none] 82) := R0.out.alloc _
    have HF : Hid (∀ Z, Z = (wc.alloc (.cells #[.int .i64 fr] 2)).setRow (w.heap.size + 1) #[.int .i64 nodes, .int .i64 slots, .slice ao nf cp, .slice (some ⟨wc.heap.size, 0, none⟩) 1 1, .slice none 0 0, .chan (some c0), .chan (some c1), .chan (some c2)] → Blk Z (w.heap.size + 1) #[.int .i64 nodes, .int .i64 slots, .slice ao nf cp, .slice (some ⟨wc.heap.size, 0, none⟩) 1 1, .slice none 0 0, .chan (some c0), .chan (some c1), .chan (some c2)] 82 ∧ Ol Z w.heap.size (.slice (some ⟨wc.heap.size, 0, none⟩) 1 1) [fr] ∧ Chn Z c0 ∧ Chn Z c1 ∧ Chn Z c2 ∧ Below w.heap.size w Z) := by
      rintro Z rfl
      have hne : ∀ c, Chn wc c → c ≠ w.heap.size + 1 := by
        rintro c ⟨s, r, hc⟩ rfl
        have := R0.out
        unfold Blk at this
        rw [hc] at this
        simp at this
      have hch : ∀ c, Chn wc c → Chn ((wc.alloc (.cells #[.int .i64 fr] 2)).setRow (w.heap.size + 1) #[.int .i64 nodes, .int .i64 slots, .slice ao nf cp, .slice (some ⟨wc.heap.size, 0, none⟩) 1 1, .slice none 0 0, .chan (some c0), .chan (some c1), .chan (some c2)]) c := by
        intro c hc
        have h2 := hne c hc
        obtain ⟨s, r, h⟩ := chn_alloc hc (.cells #[.int .i64 fr] 2)
        exact ⟨s, r, by rw [setRow_other _ _ _ _ h2]; exact h⟩
      refine ⟨setRow_heap _ _ _ _ _ _ RY.out, ?_, hch _ HC.out.2.1.1, hch _ HC.out.2.1.2.1, hch _ HC.out.2.1.2.2, below_setRow (hbw.alloc (by omega) _) (by omega) _⟩
      refine ((Ol.one wc fr).keepOn fun k hk => ?_).low (by omega)
      simp [Value.ownBlock] at hk
      subst hk
      exact setRow_other _ _ _ _ (show wc.heap.size ≠ w.heap.size + 1 by omega)
    go_upto_region 2 with fail
    repeat (first | (refine wpList_store_row rfl 82 _ _ rfl (w.heap.size + 1) #[.int .i64 nodes, .int .i64 slots, .slice ao nf cp, .slice (some ⟨wc.heap.size, 0, none⟩) 1 1, .slice none 0 0, .chan (some c0), .chan (some c1), .chan (some c2)] rfl rfl 82 #[.int .i64 0, .int .i64 0, .slice none 0 0, .slice none 0 0, .slice none 0 0, .chan none, .chan none, .chan none] RY.out (by kernel_rfl) rfl (by simp [Value.oneCell']) ?_) | go_step)
    obtain ⟨Z, hZ⟩ : ∃ Z, Z = (wc.alloc (.cells #[.int .i64 fr] 2)).setRow (w.heap.size + 1) #[.int .i64 nodes, .int .i64 slots, .slice ao nf cp, .slice (some ⟨wc.heap.size, 0, none⟩) 1 1, .slice none 0 0, .chan (some c0), .chan (some c1), .chan (some c2)] := ⟨_, rfl⟩
    rw [← hZ]
    obtain ⟨f1, f2, f3, f4, f5, f6⟩ := HF.out Z hZ
    refine bodyPost_ret (res_of (t := 82) (cs := #[.int .i64 nodes, .int .i64 slots, .slice ao nf cp, .slice (some ⟨wc.heap.size, 0, none⟩) 1 1, .slice none 0 0, .chan (some c0), .chan (some c1), .chan (some c2)]) Try.results42 rfl f1 Try.underlying82 (by kernel_rfl)) rfl ⟨wc.heap.size, c0, c1, c2, rfl, f2, by omega, f3, f4, f5, HC.out.2.2.1.1, HC.out.2.2.1.2.1, HC.out.2.2.1.2.2, by have := HC.out.2.2.2.1; omega, by have := HC.out.2.2.2.1; omega, by have := HC.out.2.2.2.1; omega, f6⟩
end Go.Proofs.Ytfpklfpcencimaa
