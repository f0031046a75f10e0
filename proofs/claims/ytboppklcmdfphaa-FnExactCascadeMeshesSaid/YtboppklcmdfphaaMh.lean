/- Meshes: what is read, what is owned; the laws' own copies, counts, comparisons and marks of meshes and of results that hold one. -/
import Derived.Test.YtboppklcmdfphaaCm
import Derived.Test.YtboppklcmdfphaaMods
namespace Go.Proofs.Ytboppklcmdfphaa
open Go.RowKit
set_option linter.unusedVariables false
set_option linter.unusedSimpArgs false
/-- v is a list of cells, to be read. -/
def RdC (w : World) (v : Value) (n : Nat) (C : Nat → Ce) : Prop := (∃ ao cap, v = .slice ao 0 cap ∧ n = 0) ∨ ∃ g cap, v = .slice (some ⟨g, 0, none⟩) n cap ∧ SegV w g 77 n 6 (fun i j => ccell (C i) j)
namespace RdC
variable {w w' : World} {v : Value} {n : Nat} {C D : Nat → Ce}
theorem later (h : RdC w v n C) (hb : Below w.heap.size w w') : RdC w' v n C := by
  rcases h with h | ⟨g, cap, rfl, h⟩
  · exact Or.inl h
  · exact Or.inr ⟨g, cap, rfl, h.below hb⟩
theorem shape (h : RdC w v n C) : ∃ ao cap, v = .slice ao n cap := by
  rcases h with ⟨ao, cap, rfl, rfl⟩ | ⟨g, cap, rfl, _⟩
  · exact ⟨ao, cap, rfl⟩
  · exact ⟨_, cap, rfl⟩
theorem congr (h : RdC w v n C) (e : ∀ i, i < n → C i = D i) : RdC w v n D := by
  rcases h with h | ⟨g, cap, rfl, h⟩
  · exact Or.inl h
  · exact Or.inr ⟨g, cap, rfl, h.congr fun i hi j _ => by rw [e i hi]⟩
end RdC
theorem RdC.at {w : World} {ao : Option Addr} {n cap : Nat} {C : Nat → Ce} (h : RdC w (.slice ao n cap) n C) {k : Nat} (hk : k < n) : ∃ b, ao = some ⟨b, 0, none⟩ ∧ ∀ j, j < 6 → w.cell? ⟨b, k * 6 + j, none⟩ = some (ccell (C k) j) := by
  rcases h with ⟨ao', cap', _, e⟩ | ⟨b, cap', e, hc⟩
  · omega
  · simp only [Value.slice.injEq] at e
    exact ⟨b, e.1, fun j hj => hc.cell hk hj⟩
/-- .. that owns its block, from lo on, below hi. -/
def OwC (lo hi : Nat) (w : World) (v : Value) (n : Nat) (C : Nat → Ce) : Prop := (∃ ao cap, v = .slice ao 0 cap ∧ n = 0) ∨ ∃ g cap, v = .slice (some ⟨g, 0, none⟩) n cap ∧ lo ≤ g ∧ g < hi ∧ SegV w g 77 n 6 (fun i j => ccell (C i) j)
def OwF (lo hi : Nat) (w : World) (v : Value) (n : Nat) (f : Nat → Int) : Prop := (∃ ao cap, v = .slice ao 0 cap ∧ n = 0) ∨ ∃ g cap, v = .slice (some ⟨g, 0, none⟩) n cap ∧ lo ≤ g ∧ g < hi ∧ Seg w g 2 0 n (fun i => .int .i64 (f i))
theorem OwC.rd {lo hi : Nat} {w : World} {v : Value} {n : Nat} {C : Nat → Ce} (h : OwC lo hi w v n C) : RdC w v n C := by
  rcases h with h | ⟨g, cap, rfl, _, _, h⟩
  · exact Or.inl h
  · exact Or.inr ⟨g, cap, rfl, h⟩
theorem OwF.rd {lo hi : Nat} {w : World} {v : Value} {n : Nat} {f : Nat → Int} (h : OwF lo hi w v n f) : RdRow w v n f := by
  rcases h with h | ⟨g, cap, rfl, _, _, h⟩
  · exact Or.inl h
  · exact h.rd
theorem OwC.keep {lo hi : Nat} {w w' : World} {v : Value} {n : Nat} {C : Nat → Ce} (h : OwC lo hi w v n C) (hk : Keep lo hi w w') : OwC lo hi w' v n C := by
  rcases h with h | ⟨g, cap, rfl, h1, h2, h⟩
  · exact Or.inl h
  · exact Or.inr ⟨g, cap, rfl, h1, h2, h.of_block (hk g h1 h2)⟩
theorem OwF.keep {lo hi : Nat} {w w' : World} {v : Value} {n : Nat} {f : Nat → Int} (h : OwF lo hi w v n f) (hk : Keep lo hi w w') : OwF lo hi w' v n f := by
  rcases h with h | ⟨g, cap, rfl, h1, h2, h⟩
  · exact Or.inl h
  · exact Or.inr ⟨g, cap, rfl, h1, h2, h.of_block (hk g h1 h2)⟩
theorem OwC.wide {lo hi lo' hi' : Nat} {w : World} {v : Value} {n : Nat} {C : Nat → Ce} (h : OwC lo hi w v n C) (a : lo' ≤ lo) (b : hi ≤ hi') : OwC lo' hi' w v n C := by
  rcases h with h | ⟨g, cap, rfl, h1, h2, h⟩
  · exact Or.inl h
  · exact Or.inr ⟨g, cap, rfl, by omega, by omega, h⟩
theorem OwF.wide {lo hi lo' hi' : Nat} {w : World} {v : Value} {n : Nat} {f : Nat → Int} (h : OwF lo hi w v n f) (a : lo' ≤ lo) (b : hi ≤ hi') : OwF lo' hi' w v n f := by
  rcases h with h | ⟨g, cap, rfl, h1, h2, h⟩
  · exact Or.inl h
  · exact Or.inr ⟨g, cap, rfl, by omega, by omega, h⟩
theorem OwC.congr {lo hi : Nat} {w : World} {v : Value} {n : Nat} {C D : Nat → Ce} (h : OwC lo hi w v n C) (e : ∀ i, i < n → C i = D i) : OwC lo hi w v n D := by
  rcases h with h | ⟨g, cap, rfl, h1, h2, h⟩
  · exact Or.inl h
  · exact Or.inr ⟨g, cap, rfl, h1, h2, h.congr fun i hi j _ => by rw [e i hi]⟩
theorem OwF.congr {lo hi : Nat} {w : World} {v : Value} {n : Nat} {f g : Nat → Int} (h : OwF lo hi w v n f) (e : ∀ i, i < n → f i = g i) : OwF lo hi w v n g := by
  rcases h with h | ⟨b, cap, rfl, h1, h2, h⟩
  · exact Or.inl h
  · exact Or.inr ⟨b, cap, rfl, h1, h2, h.congr fun i hi => by rw [e i hi]⟩
/-- A mesh's two lists, to be read. -/
structure Me (w : World) (v0 v1 : Value) (np : Nat) (ph : Nat → Int) (nc : Nat) (C : Nat → Ce) : Prop where
  p : RdRow w v0 np ph
  c : RdC w v1 nc C
/-- .. that own their blocks. -/
structure MeO (lo hi : Nat) (w : World) (v0 v1 : Value) (np : Nat) (ph : Nat → Int) (nc : Nat) (C : Nat → Ce) : Prop where
  p : OwF lo hi w v0 np ph
  c : OwC lo hi w v1 nc C
theorem Me.later {w w' : World} {v0 v1 : Value} {np : Nat} {ph : Nat → Int} {nc : Nat} {C : Nat → Ce} (h : Me w v0 v1 np ph nc C) (hb : Below w.heap.size w w') : Me w' v0 v1 np ph nc C := ⟨h.p.later hb, h.c.later hb⟩
theorem MeO.rd {lo hi : Nat} {w : World} {v0 v1 : Value} {np : Nat} {ph : Nat → Int} {nc : Nat} {C : Nat → Ce} (h : MeO lo hi w v0 v1 np ph nc C) : Me w v0 v1 np ph nc C := ⟨h.p.rd, h.c.rd⟩
theorem MeO.keep {lo hi : Nat} {w w' : World} {v0 v1 : Value} {np : Nat} {ph : Nat → Int} {nc : Nat} {C : Nat → Ce} (h : MeO lo hi w v0 v1 np ph nc C) (hk : Keep lo hi w w') : MeO lo hi w' v0 v1 np ph nc C := ⟨h.p.keep hk, h.c.keep hk⟩
theorem MeO.wide {lo hi lo' hi' : Nat} {w : World} {v0 v1 : Value} {np : Nat} {ph : Nat → Int} {nc : Nat} {C : Nat → Ce} (h : MeO lo hi w v0 v1 np ph nc C) (a : lo' ≤ lo) (b : hi ≤ hi') : MeO lo' hi' w v0 v1 np ph nc C := ⟨h.p.wide a b, h.c.wide a b⟩
theorem Me.shape {w : World} {v0 v1 : Value} {np : Nat} {ph : Nat → Int} {nc : Nat} {C : Nat → Ce} (h : Me w v0 v1 np ph nc C) : ∃ ao cap bo cbp, v0 = .slice ao np cap ∧ v1 = .slice bo nc cbp := by
  obtain ⟨a, b, e⟩ := h.p.shape
  obtain ⟨c, d, e'⟩ := h.c.shape
  exact ⟨a, b, c, d, e, e'⟩
theorem Me.nil (w : World) (ph : Nat → Int) (C : Nat → Ce) : Me w (.slice none 0 0) (.slice none 0 0) 0 ph 0 C := ⟨Or.inl ⟨_, _, rfl, rfl⟩, Or.inl ⟨_, _, rfl, rfl⟩⟩
theorem MeO.nil (lo hi : Nat) (w : World) (ph : Nat → Int) (C : Nat → Ce) : MeO lo hi w (.slice none 0 0) (.slice none 0 0) 0 ph 0 C := ⟨Or.inl ⟨_, _, rfl, rfl⟩, Or.inl ⟨_, _, rfl, rfl⟩⟩
set_option maxRecDepth 20000 in
set_option maxHeartbeats 1600000 in
theorem toMe_any {w : World} {ao bo : Option Addr} {np nc cp cq : Nat} {sd : Int} {ph : Nat → Int} {C : Nat → Ce} (h0 : RdRow w (.slice ao np cp) np ph) (h1 : RdV w (.slice bo nc cq) nc 6 (fun i j => ccell (C i) j)) (hp : np ≤ 1048576) (hc : nc ≤ 1048576) :
    Calls Try.prog 32 #[.agg #[.int .i64 sd, .slice ao np cp, .slice bo nc cq]] w fun e w' => ∃ g0 g1, e = .returned (.agg #[.int .i64 sd, .slice (some ⟨g0, 0, none⟩) np np, .slice (some ⟨g1, 0, none⟩) nc nc]) ∧ MeO w.heap.size w'.heap.size w' (.slice (some ⟨g0, 0, none⟩) np np) (.slice (some ⟨g1, 0, none⟩) nc nc) np ph nc C ∧ Below w.heap.size w w' := by
  have H0 : ∀ W, Below w.heap.size w W → Hid (RdRow W (.slice ao np cp) np ph) := fun W hb => h0.later hb
  have H1 : ∀ W, Below w.heap.size w W → Hid (RdV W (.slice bo nc cq) nc 6 (fun i j => ccell (C i) j)) := fun W hb => h1.later hb
  clear h0 h1
  go_enter Try.func32, Try.ntmps32
  go_wp2_with fail
  refine (toS_any (H0 _ (by go_grown)).out (by omega)).mono ?_
  rintro e w1 ⟨rfl, hs, hb, hz⟩
  have hB : Below w.heap.size w w1 := by refine box_step ?_ hb (by simp); go_grown
  have c_0 : w1.cell? ⟨w.heap.size, 0, none⟩ = some (.int .i64 sd) := (hb.cell (p := ⟨w.heap.size, 0, none⟩) (by first | (simp; done) | (simp; omega))).trans (by go_simp)
  have c_1 : w1.cell? ⟨w.heap.size, 1, none⟩ = some (.slice ao np cp) := (hb.cell (p := ⟨w.heap.size, 1, none⟩) (by first | (simp; done) | (simp; omega))).trans (by go_simp)
  have c_2 : w1.cell? ⟨w.heap.size, 2, none⟩ = some (.slice bo nc cq) := (hb.cell (p := ⟨w.heap.size, 2, none⟩) (by first | (simp; done) | (simp; omega))).trans (by go_simp)
  have c_3 : w1.cell? ⟨w.heap.size + 1, 0, none⟩ = some (.int .i64 0) := (hb.cell (p := ⟨w.heap.size + 1, 0, none⟩) (by first | (simp; done) | (simp; omega))).trans (by go_simp)
  have c_4 : w1.cell? ⟨w.heap.size + 1, 1, none⟩ = some (.slice none 0 0) := (hb.cell (p := ⟨w.heap.size + 1, 1, none⟩) (by first | (simp; done) | (simp; omega))).trans (by go_simp)
  have c_5 : w1.cell? ⟨w.heap.size + 1, 2, none⟩ = some (.slice none 0 0) := (hb.cell (p := ⟨w.heap.size + 1, 2, none⟩) (by first | (simp; done) | (simp; omega))).trans (by go_simp)
  have c_6 : w1.cell? ⟨w.heap.size + 1 + 1, 0, none⟩ = some (.int .i64 sd) := (hb.cell (p := ⟨w.heap.size + 1 + 1, 0, none⟩) (by first | (simp; done) | (simp; omega))).trans (by go_simp)
  have c_7 : w1.cell? ⟨w.heap.size + 1 + 1, 1, none⟩ = some (.slice none 0 0) := (hb.cell (p := ⟨w.heap.size + 1 + 1, 1, none⟩) (by first | (simp; done) | (simp; omega))).trans (by go_simp)
  have c_8 : w1.cell? ⟨w.heap.size + 1 + 1, 2, none⟩ = some (.slice none 0 0) := (hb.cell (p := ⟨w.heap.size + 1 + 1, 2, none⟩) (by first | (simp; done) | (simp; omega))).trans (by go_simp)
  have f_0 : w1.frozen? ⟨w.heap.size + 1, 0, none⟩ = false := (hb.frozen (p := ⟨w.heap.size + 1, 0, none⟩) (by first | (simp; done) | (simp; omega))).trans (by go_simp)
  have f_1 : w1.frozen? ⟨w.heap.size + 1, 1, none⟩ = false := (hb.frozen (p := ⟨w.heap.size + 1, 1, none⟩) (by first | (simp; done) | (simp; omega))).trans (by go_simp)
  have f_2 : w1.frozen? ⟨w.heap.size + 1, 2, none⟩ = false := (hb.frozen (p := ⟨w.heap.size + 1, 2, none⟩) (by first | (simp; done) | (simp; omega))).trans (by go_simp)
  have f_3 : w1.frozen? ⟨w.heap.size + 1 + 1, 0, none⟩ = false := (hb.frozen (p := ⟨w.heap.size + 1 + 1, 0, none⟩) (by first | (simp; done) | (simp; omega))).trans (by go_simp)
  have f_4 : w1.frozen? ⟨w.heap.size + 1 + 1, 1, none⟩ = false := (hb.frozen (p := ⟨w.heap.size + 1 + 1, 1, none⟩) (by first | (simp; done) | (simp; omega))).trans (by go_simp)
  have f_5 : w1.frozen? ⟨w.heap.size + 1 + 1, 2, none⟩ = false := (hb.frozen (p := ⟨w.heap.size + 1 + 1, 2, none⟩) (by first | (simp; done) | (simp; omega))).trans (by go_simp)
  simp only [World.size_alloc, World.size_setCell] at hs hb hz
  have HS : Hid (Seg w1 (w.heap.size + 1 + 1 + 1) 2 0 np (fun i => .int .i64 (ph i)) ∧ Below w.heap.size w w1 ∧ w1.heap.size = w.heap.size + 1 + 1 + 1 + 1) := ⟨hs, hB, hz⟩
  have hw1 : w.heap.size + 1 + 1 + 1 < w1.heap.size := by omega
  have ho1 : w.heap.size + 1 + 1 < w1.heap.size := by omega
  have ho2 : w.heap.size + 1 < w1.heap.size := by omega
  have ho3 : w.heap.size < w1.heap.size := by omega
  clear hs hb hB hz
  go_wp2_with fail
  refine (toCes_any (H1 _ (HS.out.2.1.setCell (by simp; omega) _)).out (by omega)).mono ?_
  rintro e w2 ⟨rfl, hs, hb⟩
  simp only [World.size_setCell] at hs hb
  have hb2 : Below w1.heap.size w1 (w1) := Below.refl _ _
  have d_0 : w2.cell? ⟨w.heap.size + 1, 0, none⟩ = some (.int .i64 0) := (hb.cell (p := ⟨w.heap.size + 1, 0, none⟩) (by simp; omega)).trans (by go_simp)
  have d_1 : w2.cell? ⟨w.heap.size + 1, 1, none⟩ = some (.slice none 0 0) := (hb.cell (p := ⟨w.heap.size + 1, 1, none⟩) (by simp; omega)).trans (by go_simp)
  have d_2 : w2.cell? ⟨w.heap.size + 1, 2, none⟩ = some (.slice none 0 0) := (hb.cell (p := ⟨w.heap.size + 1, 2, none⟩) (by simp; omega)).trans (by go_simp)
  have d_3 : w2.cell? ⟨w.heap.size + 1 + 1, 0, none⟩ = some (.int .i64 sd) := (hb.cell (p := ⟨w.heap.size + 1 + 1, 0, none⟩) (by simp; omega)).trans (by go_simp)
  have d_4 : w2.cell? ⟨w.heap.size + 1 + 1, 1, none⟩ = some (.slice (some ⟨w.heap.size + 1 + 1 + 1, 0, none⟩) np np) := (hb.cell (p := ⟨w.heap.size + 1 + 1, 1, none⟩) (by simp; omega)).trans (by go_simp)
  have d_5 : w2.cell? ⟨w.heap.size + 1 + 1, 2, none⟩ = some (.slice none 0 0) := (hb.cell (p := ⟨w.heap.size + 1 + 1, 2, none⟩) (by simp; omega)).trans (by go_simp)
  have k_0 : w2.frozen? ⟨w.heap.size + 1, 0, none⟩ = false := (hb.frozen (p := ⟨w.heap.size + 1, 0, none⟩) (by simp; omega)).trans (by go_simp)
  have k_1 : w2.frozen? ⟨w.heap.size + 1, 1, none⟩ = false := (hb.frozen (p := ⟨w.heap.size + 1, 1, none⟩) (by simp; omega)).trans (by go_simp)
  have k_2 : w2.frozen? ⟨w.heap.size + 1, 2, none⟩ = false := (hb.frozen (p := ⟨w.heap.size + 1, 2, none⟩) (by simp; omega)).trans (by go_simp)
  have k_3 : w2.frozen? ⟨w.heap.size + 1 + 1, 0, none⟩ = false := (hb.frozen (p := ⟨w.heap.size + 1 + 1, 0, none⟩) (by simp; omega)).trans (by go_simp)
  have k_4 : w2.frozen? ⟨w.heap.size + 1 + 1, 1, none⟩ = false := (hb.frozen (p := ⟨w.heap.size + 1 + 1, 1, none⟩) (by simp; omega)).trans (by go_simp)
  have k_5 : w2.frozen? ⟨w.heap.size + 1 + 1, 2, none⟩ = false := (hb.frozen (p := ⟨w.heap.size + 1 + 1, 2, none⟩) (by simp; omega)).trans (by go_simp)
  have HT : Hid (Seg w2 (w.heap.size + 1 + 1 + 1) 2 0 np (fun i => .int .i64 (ph i)) ∧ SegV w2 w1.heap.size 77 nc 6 (fun i j => ccell (C i) j) ∧ Below w.heap.size w w2) :=
    ⟨(HS.out.1.setOther (by simp) _).of_block (hb.block _ (by omega)), hs, (HS.out.2.1.setCell (by simp; omega) _).trans (hb.mono (by omega))⟩
  have hw2 : w1.heap.size < w2.heap.size := hs.lt
  clear hs hb hb2 c_0 c_1 c_2 c_3 c_4 c_5 c_6 c_7 c_8 f_0 f_1 f_2 f_3 f_4 f_5 H0 H1
  go_wp2
  refine bodyPost_ret (v := .agg #[.int .i64 sd, .slice (some ⟨w.heap.size + 1 + 1 + 1, 0, none⟩) np np, .slice (some ⟨w1.heap.size, 0, none⟩) nc nc]) (by simp [results, Try.results32, go_sem, d_0, d_1, d_2]) rfl ⟨_, _, rfl, ?_, ?_⟩
  · obtain ⟨t1, t2, t3⟩ := HT.out
    refine ⟨Or.inr ⟨_, _, rfl, by omega, by simp; omega, ?_⟩, Or.inr ⟨_, _, rfl, by omega, by simp; omega, ?_⟩⟩
    · exact (((t1.setOther (by first | (simp; done) | (simp; omega)) _).setOther (by first | (simp; done) | (simp; omega)) _).setOther (by first | (simp; done) | (simp; omega)) _).setOther (by first | (simp; done) | (simp; omega)) _
    · exact (((t2.setOther (by omega) _).setOther (by omega) _).setOther (by omega) _).setOther (by omega) _
  · exact (((HT.out.2.2.setCell (by simp <;> omega) _).setCell (by simp <;> omega) _).setCell (by simp <;> omega) _).setCell (by simp <;> omega) _
set_option maxRecDepth 20000 in
set_option maxHeartbeats 1600000 in
theorem szCe_any (ao : Option Addr) (n cap : Nat) (left : Int) (w : World) (h0 : 0 ≤ left) (h1 : left ≤ 1048576) (hn : n ≤ 9223372036854775807) :
    Calls Try.prog 66 #[.slice ao n cap, .int .i64 left] w fun e w' => e = .returned (.int .i64 (if left - n < 0 then -1 else left - n)) ∧ w = w' := by
  by_cases h : left - n < 0
  · rw [if_pos h]
    go_enter Try.func66, Try.ntmps66
    go_wp2
    go_ret
    exact ⟨rfl, rfl⟩
  · rw [if_neg h]
    go_enter Try.func66, Try.ntmps66
    go_wp2
    go_ret
    exact ⟨rfl, rfl⟩
/-- What is left of so many places. -/
def szM (left : Int) (np nc : Nat) : Int := if left - np < 0 then -1 else if left - np - nc < 0 then -1 else left - np - nc
theorem szM_ok {l : Int} {np nc : Nat} (h : ¬ szM l np nc < 0) : (np : Int) + nc ≤ l := by
  unfold szM at h
  split at h
  · omega
  · split at h <;> omega
theorem szM_le (l : Int) (np nc : Nat) (h : 0 ≤ l) : szM l np nc ≤ l := by
  unfold szM
  split
  · omega
  · split <;> omega
set_option maxRecDepth 20000 in
set_option maxHeartbeats 1600000 in
theorem szMe_any (ao bo : Option Addr) (np cp nc cq : Nat) (sd left : Int) (w : World) (h0 : 0 ≤ left) (h1 : left ≤ 1048576) (hn : np ≤ 9223372036854775807) (hn2 : nc ≤ 9223372036854775807) :
    Calls Try.prog 30 #[.agg #[.int .i64 sd, .slice ao np cp, .slice bo nc cq], .int .i64 left] w fun e w' => e = .returned (.int .i64 (szM left np nc)) ∧ Below w.heap.size w w' := by
  unfold szM
  by_cases h : left - np < 0
  · rw [if_pos h]
    go_enter Try.func30, Try.ntmps30
    go_wp2_with fail
    refine (szS_any _ _ _ left _ h0 h1 hn).mono ?_
    rintro e w1 ⟨rfl, rfl⟩
    rw [if_pos h]
    go_wp2
    go_ret
    exact ⟨rfl, by go_grown⟩
  · rw [if_neg h]
    obtain ⟨x, hx⟩ : ∃ x : Int, x = left - np := ⟨_, rfl⟩
    rw [← hx] at h ⊢
    have hx1 : x ≤ 1048576 := by omega
    have HX : Hid (x = left - np) := hx
    clear hx
    by_cases h2 : x - nc < 0
    · rw [if_pos h2]
      go_enter Try.func30, Try.ntmps30
      go_wp2_with fail
      refine (szS_any _ _ _ left _ h0 h1 hn).mono ?_
      rintro e w1 ⟨rfl, rfl⟩
      rw [← HX.out, if_neg (by omega)]
      go_wp2_with fail
      refine (szCe_any _ _ _ x _ (by omega) hx1 hn2).mono ?_
      rintro e w1 ⟨rfl, rfl⟩
      rw [if_pos h2]
      go_wp2
      go_ret
      exact ⟨rfl, by go_grown⟩
    · rw [if_neg h2]
      go_enter Try.func30, Try.ntmps30
      go_wp2_with fail
      refine (szS_any _ _ _ left _ h0 h1 hn).mono ?_
      rintro e w1 ⟨rfl, rfl⟩
      rw [← HX.out, if_neg (by omega)]
      go_wp2_with fail
      refine (szCe_any _ _ _ x _ (by omega) hx1 hn2).mono ?_
      rintro e w1 ⟨rfl, rfl⟩
      rw [if_neg (by omega)]
      go_wp2
      go_ret
      exact ⟨rfl, by go_grown⟩
set_option maxHeartbeats 800000 in
theorem eqCes_none (ao ao' : Option Addr) (cap cap' : Nat) (w : World) : Calls Try.prog 71 #[.slice ao 0 cap, .slice ao' 0 cap'] w fun e w' => e = .returned (.bool true) ∧ Below w.heap.size w w' := by
  go_enter Try.func71, Try.ntmps71
  go_wp2_with fail
  refine wp_loop_rounds 1 ?_
  rw [rounds_succ]
  go_wp2
  go_ret
  exact ⟨rfl, Below.refl _ _⟩
theorem eqC_any {w : World} {v v' : Value} {n : Nat} {C : Nat → Ce} (h : RdC w v n C) (h' : RdC w v' n C) (hn : n ≤ 1048576) : Calls Try.prog 71 #[v, v'] w fun e w' => e = .returned (.bool true) ∧ Below w.heap.size w w' := by
  rcases h with ⟨ao, cap, rfl, rfl⟩ | ⟨g, cap, rfl, h⟩
  · rcases h' with ⟨ao', cap', rfl, _⟩ | ⟨g', cap', rfl, h'⟩
    · exact eqCes_none _ _ _ _ _
    · exact eqCes_none _ _ _ _ _
  · rcases h' with ⟨ao', cap', rfl, rfl⟩ | ⟨g', cap', rfl, h'⟩
    · exact eqCes_none _ _ _ _ _
    · exact eqCes_same _ _ _ _ _ _ _ (by omega) h h'
set_option maxRecDepth 20000 in
set_option maxHeartbeats 1600000 in
theorem eqMe_any {w : World} {v0 v1 u0 u1 : Value} {np nc : Nat} {sd : Int} {ph : Nat → Int} {C : Nat → Ce} (h : Me w v0 v1 np ph nc C) (k : Me w u0 u1 np ph nc C) (hp : np ≤ 1048576) (hc : nc ≤ 1048576) :
    Calls Try.prog 34 #[.agg #[.int .i64 sd, v0, v1], .agg #[.int .i64 sd, u0, u1]] w fun e w' => e = .returned (.bool true) ∧ Below w.heap.size w w' := by
  obtain ⟨ao, cp, bo, cq, rfl, rfl⟩ := h.shape
  obtain ⟨ao', cp', bo', cq', rfl, rfl⟩ := k.shape
  have H : ∀ W, Below w.heap.size w W → Hid (Me W (.slice ao np cp) (.slice bo nc cq) np ph nc C) := fun W hb => h.later hb
  have K : ∀ W, Below w.heap.size w W → Hid (Me W (.slice ao' np cp') (.slice bo' nc cq') np ph nc C) := fun W hb => k.later hb
  clear h k
  go_enter Try.func34, Try.ntmps34
  go_wp2_with fail
  refine (eqS_any (H _ (by go_grown)).out.p (K _ (by go_grown)).out.p (by omega)).mono ?_
  rintro e w1 ⟨rfl, q, rfl⟩
  go_wp2_with fail
  refine (eqC_any (H _ (below_drewN (by go_grown) _)).out.c (K _ (below_drewN (by go_grown) _)).out.c (by omega)).mono ?_
  rintro e w2 ⟨rfl, hb⟩
  have HB : Hid (Below w.heap.size w w2) := by refine box_step (below_drewN ?_ q) hb (by simp); go_grown
  clear hb H K
  go_wp2
  go_ret
  exact ⟨rfl, HB.out⟩
set_option maxRecDepth 20000 in
set_option maxHeartbeats 1600000 in
theorem eqMR_any {w : World} {v0 v1 u0 u1 : Value} {np nc : Nat} {c sd : Int} {ph : Nat → Int} {C : Nat → Ce} (h : Me w v0 v1 np ph nc C) (k : Me w u0 u1 np ph nc C) (hp : np ≤ 1048576) (hc : nc ≤ 1048576) :
    Calls Try.prog 45 #[.agg #[.int .i64 c, .int .i64 sd, v0, v1], .agg #[.int .i64 c, .int .i64 sd, u0, u1]] w fun e w' => e = .returned (.bool true) ∧ Below w.heap.size w w' := by
  obtain ⟨ao, cp, bo, cq, rfl, rfl⟩ := h.shape
  obtain ⟨ao', cp', bo', cq', rfl, rfl⟩ := k.shape
  have H : ∀ W, Below w.heap.size w W → Hid (Me W (.slice ao np cp) (.slice bo nc cq) np ph nc C) := fun W hb => h.later hb
  have K : ∀ W, Below w.heap.size w W → Hid (Me W (.slice ao' np cp') (.slice bo' nc cq') np ph nc C) := fun W hb => k.later hb
  clear h k
  go_enter Try.func45, Try.ntmps45
  go_wp2_with fail
  refine (eqMe_any (H _ (by go_grown)).out (K _ (by go_grown)).out hp hc).mono ?_
  rintro e w2 ⟨rfl, hb⟩
  have HB : Hid (Below w.heap.size w w2) := by refine box_step ?_ hb (by simp); go_grown
  clear hb H K
  go_wp2
  go_ret
  exact ⟨rfl, HB.out⟩
theorem Within.of_size {lo hi : Nat} {w w' : World} (h : Within lo hi w w') : w.heap.size ≤ w'.heap.size := h.below.size
theorem markF_any {lo hi : Nat} {w : World} {v : Value} {n : Nat} {f : Nat → Int} (k0 : Int) (h : OwF lo hi w v n f) (h0 : 0 ≤ k0) (h1 : k0 ≤ 100000000) (hn : n ≤ 1048576) :
    Calls Try.prog 27 #[v, .int .i64 k0] w fun e w' => e = .returned (.int .i64 (k0 + n)) ∧ OwF lo hi w' v n (fun i => k0 + i) ∧ Within lo hi w w' ∧ (∀ (b : Nat) (c : Array Value) (t : TypeId), w.heap[b]? = some (.cells c t (0, 0)) → t ≠ 2 → w'.heap[b]? = w.heap[b]?) := by
  rcases h with ⟨ao, cap, rfl, rfl⟩ | ⟨g, cap, rfl, g1, g2, hs⟩
  · refine (markS_none _ _ _ _).mono ?_
    rintro e w1 ⟨rfl, rfl⟩
    exact ⟨by simp, Or.inl ⟨_, _, rfl, rfl⟩, Within.refl _ _ _, fun _ _ _ _ _ => rfl⟩
  · refine (markS_some _ _ _ _ _ _ _ h0 (by omega) hs).mono ?_
    rintro e w1 ⟨rfl, hm1, hw1, hz1⟩
    refine ⟨rfl, Or.inr ⟨g, cap, rfl, g1, g2, hm1⟩, hw1.mono g1 g2, fun b c t hb ht => ?_⟩
    have hne : b ≠ g := fun e => by
      subst e
      obtain ⟨c', hb', _⟩ := hs
      rw [hb] at hb'
      simp at hb'
      exact ht hb'.2
    by_cases hl : b < g
    · exact hw1.below.block b hl
    · exact hw1.above b (by omega) (Array.getElem?_eq_some_iff.1 hb).1
theorem markC_any {lo hi : Nat} {w : World} {v : Value} {n : Nat} {C : Nat → Ce} (k0 : Int) (h : OwC lo hi w v n C) (h0 : 0 ≤ k0) (h1 : k0 ≤ 100000000) (hn : n ≤ 1048576) :
    Calls Try.prog 75 #[v, .int .i64 k0] w fun e w' => e = .returned (.int .i64 (mK k0 n)) ∧ OwC lo hi w' v n (fun i => mce (mK k0 i)) ∧ Within lo hi w w' ∧ (∀ (b : Nat) (c : Array Value) (t : TypeId), w.heap[b]? = some (.cells c t (0, 0)) → t ≠ 77 → w'.heap[b]? = w.heap[b]?) := by
  rcases h with ⟨ao, cap, rfl, rfl⟩ | ⟨g, cap, rfl, g1, g2, hs⟩
  · refine (markCe_none _ _ _ _).mono ?_
    rintro e w1 ⟨rfl, rfl⟩
    exact ⟨by simp [mK], Or.inl ⟨_, _, rfl, rfl⟩, Within.refl _ _ _, fun _ _ _ _ _ => rfl⟩
  · refine (markCe_some _ _ _ _ _ _ hn h0 h1 hs).mono ?_
    rintro e w1 ⟨rfl, hm1, hw1, hz1⟩
    refine ⟨rfl, Or.inr ⟨g, cap, rfl, g1, g2, hm1⟩, hw1.mono g1 g2, fun b c t hb ht => ?_⟩
    have hne : b ≠ g := fun e => by
      subst e
      obtain ⟨c', hb', _⟩ := hs
      rw [hb] at hb'
      simp at hb'
      exact ht hb'.2
    by_cases hl : b < g
    · exact hw1.below.block b hl
    · exact hw1.above b (by omega) (Array.getElem?_eq_some_iff.1 hb).1
theorem OwC.marked {lo hi : Nat} {w w' : World} {v : Value} {n : Nat} {C : Nat → Ce} (h : OwC lo hi w v n C) (hk : ∀ (b : Nat) (c : Array Value) (t : TypeId), w.heap[b]? = some (.cells c t (0, 0)) → t ≠ 2 → w'.heap[b]? = w.heap[b]?) : OwC lo hi w' v n C := by
  rcases h with h | ⟨g, cap, rfl, g1, g2, hs⟩
  · exact Or.inl h
  · refine Or.inr ⟨g, cap, rfl, g1, g2, ?_⟩
    obtain ⟨c, hb, hc⟩ := hs
    exact ⟨c, (hk g c 77 hb (by decide)).trans hb, hc⟩
theorem OwF.marked {lo hi : Nat} {w w' : World} {v : Value} {n : Nat} {f : Nat → Int} (h : OwF lo hi w v n f) (hk : ∀ (b : Nat) (c : Array Value) (t : TypeId), w.heap[b]? = some (.cells c t (0, 0)) → t ≠ 77 → w'.heap[b]? = w.heap[b]?) : OwF lo hi w' v n f := by
  rcases h with h | ⟨g, cap, rfl, g1, g2, hs⟩
  · exact Or.inl h
  · refine Or.inr ⟨g, cap, rfl, g1, g2, ?_⟩
    obtain ⟨c, hb, hc⟩ := hs
    exact ⟨c, (hk g c 2 hb (by decide)).trans hb, hc⟩
/-- A mesh that has been marked from k on. -/
def MkM (lo hi : Nat) (w : World) (v0 v1 : Value) (np nc : Nat) (k : Int) : Prop := MeO lo hi w v0 v1 np (fun i => k + i) nc (fun i => mce (mK (k + np) i))
set_option maxRecDepth 20000 in
set_option maxHeartbeats 1600000 in
theorem markMe_any {lo hi : Nat} {w : World} {v0 v1 : Value} {np nc : Nat} {sd : Int} {ph : Nat → Int} {C : Nat → Ce} (k0 : Int) (h : MeO lo hi w v0 v1 np ph nc C) (h0 : 0 ≤ k0) (h1 : k0 ≤ 10000000) (hp : np ≤ 1048576) (hc : nc ≤ 1048576) (hlo : lo ≤ w.heap.size) (hhi : hi ≤ w.heap.size) :
    Calls Try.prog 38 #[.agg #[.int .i64 sd, v0, v1], .int .i64 k0] w fun e w' => e = .returned (.int .i64 (mK (k0 + np) nc)) ∧ MkM lo hi w' v0 v1 np nc k0 ∧ Within lo hi w w' := by
  obtain ⟨ao, cp, bo, cq, rfl, rfl⟩ := h.rd.shape
  have H : ∀ o, Hid (MeO lo hi (w.alloc o) (.slice ao np cp) (.slice bo nc cq) np ph nc C) := fun o => h.keep (Keep.of ((Below.refl w.heap.size w).alloc (Nat.le_refl _) o) hhi)
  clear h
  have hx1 : (w.alloc (.cells #[.int .i64 sd, .slice ao np cp, .slice bo nc cq] 49)).heap[w.heap.size]? = some (.cells #[.int .i64 sd, .slice ao np cp, .slice bo nc cq] 49 (0, 0)) := heap_alloc_new _ _
  have HX : Hid ((w.alloc (.cells #[.int .i64 sd, .slice ao np cp, .slice bo nc cq] 49)).heap[w.heap.size]? = some (.cells #[.int .i64 sd, .slice ao np cp, .slice bo nc cq] 49 (0, 0))) := hx1
  clear hx1
  have HH : Hid (lo ≤ w.heap.size ∧ hi ≤ w.heap.size) := ⟨hlo, hhi⟩
  clear hlo hhi
  go_enter Try.func38, Try.ntmps38
  go_wp2_with fail
  refine (markF_any k0 (H _).out.p h0 (by omega) hp).mono ?_
  rintro e w1 ⟨rfl, hf, hw, hk⟩
  have hB : Blk w1 w.heap.size #[.int .i64 sd, .slice ao np cp, .slice bo nc cq] 49 := (hk _ _ _ HX.out (by decide)).trans HX.out
  have x0 := hB.cell (j := 0) rfl
  have x1 := hB.cell (j := 1) rfl
  have x2 := hB.cell (j := 2) rfl
  have HS : Hid (OwF lo hi w1 (.slice ao np cp) np (fun i => k0 + i) ∧ OwC lo hi w1 (.slice bo nc cq) nc C ∧ Within lo hi w w1) := ⟨hf, (H _).out.c.marked hk, ((Within.refl _ _ _).alloc HH.out.1 _).trans hw⟩
  clear hf hw hk hB H
  obtain ⟨y, hy⟩ : ∃ y : Int, y = k0 + np := ⟨_, rfl⟩
  have HY : Hid (y = k0 + np) := hy
  rw [← hy]
  clear hy
  go_wp2_with fail
  refine (markC_any y HS.out.2.1 (by have := HY.out; omega) (by have := HY.out; omega) hc).mono ?_
  rintro e w2 ⟨rfl, hf, hw, hk⟩
  have HT : Hid (MkM lo hi w2 (.slice ao np cp) (.slice bo nc cq) np nc k0 ∧ Within lo hi w w2) := ⟨⟨HS.out.1.marked hk, by rw [← HY.out]; exact hf⟩, HS.out.2.2.trans hw⟩
  clear hf hw hk HS
  go_wp2
  go_ret
  exact ⟨by rw [← HY.out]; rfl, HT.out⟩
set_option maxRecDepth 20000 in
set_option maxHeartbeats 1600000 in
theorem heldMe_any {lo hi : Nat} {w : World} {v0 v1 : Value} {np nc : Nat} {sd : Int} (k0 : Int) (h : MkM lo hi w v0 v1 np nc k0) (h0 : 0 ≤ k0) (h1 : k0 ≤ 10000000) (hp : np ≤ 1048576) (hc : nc ≤ 1048576) :
    Calls Try.prog 87 #[.agg #[.int .i64 sd, v0, v1], .int .i64 k0] w fun e w' => e = .returned (.int .i64 (mK (k0 + np) nc)) ∧ Below w.heap.size w w' := by
  obtain ⟨ao, cp, bo, cq, rfl, rfl⟩ := MeO.rd (show MeO lo hi w v0 v1 np (fun i => k0 + i) nc (fun i => mce (mK (k0 + np) i)) from h) |>.shape
  have H : ∀ o, Hid (Me (w.alloc o) (.slice ao np cp) (.slice bo nc cq) np (fun i => k0 + i) nc (fun i => mce (mK (k0 + np) i))) := fun o => (MeO.rd h).later ((Below.refl w.heap.size w).alloc (Nat.le_refl _) o)
  clear h
  have cF : ∀ W, RdRow W (.slice ao np cp) np (fun i => k0 + i) → Calls Try.prog 65 #[.slice ao np cp, .int .i64 k0] W fun e w' => e = .returned (.int .i64 (k0 + np)) ∧ W = w' := fun W h => by
    rcases h with ⟨a, c, e, e0⟩ | ⟨b, off, c, e, hc⟩
    · subst e0
      rw [e]
      simpa using heldS_none a c k0 W
    · rw [e]
      exact heldS_some _ _ _ _ _ _ h0 (by omega) hc
  have cC : ∀ W y, y = k0 + np → RdC W (.slice bo nc cq) nc (fun i => mce (mK (k0 + np) i)) → Calls Try.prog 114 #[.slice bo nc cq, .int .i64 y] W fun e w' => e = .returned (.int .i64 (mK y nc)) ∧ W = w' := fun W y hy h => by
    rcases h with ⟨a, c, e, e0⟩ | ⟨g, c, e, hs⟩
    · subst e0
      rw [e]
      have := heldCe_none a c y W
      simpa [mK] using this
    · rw [e]
      rw [← hy] at hs
      exact heldCe_some _ _ _ _ _ hc (by omega) (by omega) hs
  have hm : 0 ≤ mK (k0 + np) nc := by unfold mK; omega
  obtain ⟨y, hy⟩ : ∃ y : Int, y = k0 + np := ⟨_, rfl⟩
  have hy0 : 0 ≤ y := by omega
  have HY : Hid (y = k0 + np) := hy
  rw [← hy] at hm ⊢
  clear hy
  obtain ⟨z, hz⟩ : ∃ z : Int, z = mK y nc := ⟨_, rfl⟩
  have HZ : Hid (z = mK y nc) := hz
  rw [← hz] at hm ⊢
  clear hz
  go_enter Try.func87, Try.ntmps87
  go_wp2_with fail
  refine (cF _ (H _).out.p).mono ?_
  rintro e w1 ⟨rfl, rfl⟩
  rw [← HY.out]
  go_wp2_with fail
  refine (cC _ y HY.out (H _).out.c).mono ?_
  rintro e w1 ⟨rfl, rfl⟩
  rw [← HZ.out]
  clear cF cC H
  go_wp2
  go_ret
  exact ⟨rfl, by go_grown⟩
set_option maxRecDepth 20000 in
set_option maxHeartbeats 1600000 in
theorem markMR_any {lo hi : Nat} {w : World} {v0 v1 : Value} {np nc : Nat} {c sd : Int} {ph : Nat → Int} {C : Nat → Ce} (h : MeO lo hi w v0 v1 np ph nc C) (hp : np ≤ 1048576) (hc : nc ≤ 1048576) (hlo : lo ≤ w.heap.size) (hhi : hi ≤ w.heap.size) :
    Calls Try.prog 46 #[.agg #[.int .i64 c, .int .i64 sd, v0, v1], .int .i64 1] w fun e w' => e = .returned (.int .i64 (mK (1 + np) nc)) ∧ MkM lo hi w' v0 v1 np nc 1 ∧ Within lo hi w w' := by
  obtain ⟨ao, cp, bo, cq, rfl, rfl⟩ := h.rd.shape
  have H : ∀ o, Hid (MeO lo hi (w.alloc o) (.slice ao np cp) (.slice bo nc cq) np ph nc C) := fun o => h.keep (Keep.of ((Below.refl w.heap.size w).alloc (Nat.le_refl _) o) hhi)
  clear h
  have HH : Hid (lo ≤ w.heap.size ∧ hi ≤ w.heap.size) := ⟨hlo, hhi⟩
  clear hlo hhi
  go_enter Try.func46, Try.ntmps46
  go_wp2_with fail
  refine (markMe_any 1 (H _).out (by omega) (by omega) hp hc (by have := HH.out; simp; omega) (by have := HH.out; simp; omega)).mono ?_
  rintro e w2 ⟨rfl, hf, hw⟩
  have HT : Hid (MkM lo hi w2 (.slice ao np cp) (.slice bo nc cq) np nc 1 ∧ Within lo hi w w2) := ⟨hf, ((Within.refl _ _ _).alloc HH.out.1 _).trans hw⟩
  clear hf hw H
  go_wp2
  go_ret
  exact ⟨rfl, HT.out⟩
set_option maxRecDepth 20000 in
set_option maxHeartbeats 1600000 in
theorem heldMR_any {lo hi : Nat} {w : World} {v0 v1 : Value} {np nc : Nat} {c sd : Int} (h : MkM lo hi w v0 v1 np nc 1) (hp : np ≤ 1048576) (hc : nc ≤ 1048576) (hhi : hi ≤ w.heap.size) :
    Calls Try.prog 47 #[.agg #[.int .i64 c, .int .i64 sd, v0, v1], .int .i64 1] w fun e w' => e = .returned (.int .i64 (mK (1 + np) nc)) ∧ Below w.heap.size w w' := by
  obtain ⟨ao, cp, bo, cq, rfl, rfl⟩ := MeO.rd (show MeO lo hi w v0 v1 np (fun i => 1 + i) nc (fun i => mce (mK (1 + np) i)) from h) |>.shape
  have H : ∀ o, Hid (MkM lo hi (w.alloc o) (.slice ao np cp) (.slice bo nc cq) np nc 1) := fun o => MeO.keep h (Keep.of ((Below.refl w.heap.size w).alloc (Nat.le_refl _) o) hhi)
  clear h
  have hm : 0 ≤ mK (1 + np) nc := by unfold mK; omega
  obtain ⟨z, hz⟩ : ∃ z : Int, z = mK (1 + np) nc := ⟨_, rfl⟩
  have HZ : Hid (z = mK (1 + np) nc) := hz
  rw [← hz] at hm ⊢
  clear hz
  go_enter Try.func47, Try.ntmps47
  go_wp2_with fail
  refine (heldMe_any 1 (H _).out (by omega) (by omega) hp hc).mono ?_
  rintro e w1 ⟨rfl, hb⟩
  rw [← HZ.out]
  have HB : Hid (Below w.heap.size w w1) := by refine box_step ?_ hb (by simp); go_grown
  clear hb H
  go_wp2
  go_ret
  exact ⟨rfl, HB.out⟩
end Go.Proofs.Ytboppklcmdfphaa
