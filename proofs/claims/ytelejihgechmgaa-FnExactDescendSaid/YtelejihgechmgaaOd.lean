/- What Descend answers, owned. -/
import Derived.Test.YtelejihgechmgaaPc
import Derived.Test.YtelejihgechmgaaMarks
namespace Go.Proofs.Ytelejihgechmgaa
open Go.RowKit
set_option linter.unusedVariables false
set_option linter.unusedSimpArgs false
def gd (ps : List Mt.Pnt) : Nat → Nat → Int := fun i => ps.getD i (fun _ => 0)
def OwD (lo hi : Nat) (w : World) (c : Int) (pv mv : Value) (d : Nat) (ps : List Mt.Pnt) (ms : List Int) : Prop :=
  (c ≠ 0 ∧ pv = .slice none 0 0 ∧ mv = .slice none 0 0) ∨ (c = 0 ∧ ∃ m g2 cap, pv = .slice (some ⟨m.b, 0, none⟩) ps.length m.cap ∧ mv = .slice (some ⟨g2, 0, none⟩) ms.length cap ∧ Mat lo hi w m ps.length (fun _ => d) (gd ps) ∧ lo ≤ g2 ∧ g2 < hi ∧ Seg w g2 2 0 ms.length (fun i => .int .i64 (ms.getD i 0)) ∧ ∀ i, i < ps.length → m.bs i ≠ g2)
theorem OwD.of {w : World} {lo d : Nat} {vp vm : Value} {bs cs : Nat → Nat} {ps : List Mt.Pnt} {ms : List Int} (h : Pth w lo vp vm bs cs d ps ms) (hn : 0 < ps.length) (hm : 0 < ms.length) : OwD lo w.heap.size w 0 vp vm d ps ms := by
  obtain ⟨g, cap, e, hM⟩ := h.mat hn
  rcases OwnI.of h.mer (Nat.le_refl _) with ⟨e2, _⟩ | ⟨_, ⟨e2, _⟩ | ⟨g2, cap2, e2, h1, h2, h3⟩⟩
  · exact absurd rfl e2
  · rw [e2] at hm; simp at hm
  · refine Or.inr ⟨rfl, ⟨g, cap, bs, fun _ => 0, cs⟩, g2, cap2, e, e2, hM, h1, h2, h3, fun i hi q => h.mne i hi ?_⟩
    rw [e2]
    show some g2 = some (bs i)
    rw [show bs i = g2 from q]
theorem OwD.keep {lo hi : Nat} {w w' : World} {c : Int} {pv mv : Value} {d : Nat} {ps : List Mt.Pnt} {ms : List Int} (h : OwD lo hi w c pv mv d ps ms) (hk : Keep lo hi w w') : OwD lo hi w' c pv mv d ps ms := by
  rcases h with h | ⟨h0, m, g2, cap, e1, e2, h1, h2, h3, h4, h5⟩
  · exact Or.inl h
  · exact Or.inr ⟨h0, m, g2, cap, e1, e2, h1.keep hk, h2, h3, h4.of_block (hk _ h2 h3), h5⟩
def mers (L : Nat → Mt.Am) (n d : Nat) (ps : List Mt.Pnt) : List Int := ps.map (Mt.merit L n d)
theorem mers_len (L : Nat → Mt.Am) (n d : Nat) (ps : List Mt.Pnt) : (mers L n d ps).length = ps.length := by simp [mers]
theorem mers_snoc (L : Nat → Mt.Am) (n d : Nat) (ps : List Mt.Pnt) (x : Mt.Pnt) : mers L n d (ps ++ [x]) = mers L n d ps ++ [Mt.merit L n d x] := by simp [mers]
theorem lst_gd {ps : List Mt.Pnt} (h : 0 < ps.length) : ps.getD (ps.length - 1) (fun _ => 0) = Mt.lst ps := by
  unfold Mt.lst
  rw [List.getLastD_eq_getLast?, List.getLast?_eq_getElem?]
  rfl
/-- The last point's row. -/
theorem Pth.last {w : World} {lo d : Nat} {vp vm : Value} {bs cs : Nat → Nat} {ps : List Mt.Pnt} {ms : List Int} (h : Pth w lo vp vm bs cs d ps ms) (hn : 0 < ps.length) : RdRow w (rv bs cs d (ps.length - 1)) d (Mt.lst ps) := by
  have := h.row (ps.length - 1) (by omega)
  rw [lst_gd hn] at this
  exact this.rd
end Go.Proofs.Ytelejihgechmgaa
