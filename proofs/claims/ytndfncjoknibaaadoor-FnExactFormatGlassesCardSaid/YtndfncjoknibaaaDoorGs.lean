/- Lists of glasses: memory that holds them; the laws' own sizes, copies and comparisons: contracts. -/
import Derived.Test.YtndfncjoknibaaaDoorGc
namespace Go.Proofs.YtndfncjoknibaaaDoor
open Go.RowKit Fl
set_option linter.unusedVariables false
/-- A glass. -/
structure Gl where
  s : ByteArray
  kd : Int
  lo : Int
  hi : Int
  n : Nat
  f : Nat → Int
  x : Nat
/-- Six cells from a place on are these. -/
structure SixAt (w : World) (b o : Nat) (g : Gl) (k : Value) : Prop where
  c0 : w.cell? ⟨b, o, none⟩ = some (.string g.s)
  c1 : w.cell? ⟨b, o + 1, none⟩ = some (.int .i64 g.kd)
  c2 : w.cell? ⟨b, o + 2, none⟩ = some (.int .i64 g.lo)
  c3 : w.cell? ⟨b, o + 3, none⟩ = some (.int .i64 g.hi)
  c4 : w.cell? ⟨b, o + 4, none⟩ = some k
  c5 : w.cell? ⟨b, o + 5, none⟩ = some (.float .f64 g.x)
theorem SixAt.of_block {w w' : World} {b o : Nat} {g : Gl} {k : Value} (h : SixAt w b o g k) (e : w'.heap[b]? = w.heap[b]?) : SixAt w' b o g k := by
  have q : ∀ j, w'.cell? ⟨b, j, none⟩ = w.cell? ⟨b, j, none⟩ := fun j => World.cell?_of_block (w := w) e
  exact ⟨(q _).trans h.c0, (q _).trans h.c1, (q _).trans h.c2, (q _).trans h.c3, (q _).trans h.c4, (q _).trans h.c5⟩
theorem SixAt.lt {w : World} {b o : Nat} {g : Gl} {k : Value} (h : SixAt w b o g k) : b < w.heap.size := World.block_lt_of_cell? _ _ h.c0
theorem SixAt.later {w w' : World} {b o : Nat} {g : Gl} {k : Value} (h : SixAt w b o g k) (hb : Below w.heap.size w w') : SixAt w' b o g k := h.of_block (hb.block _ h.lt)
/-- What is known of a glass: its sizes. -/
structure GlOk (g : Gl) : Prop where
  hs : g.s.size ≤ 9223372036854775807
  hn : g.n ≤ 9223372036854775807
  hx : g.x < 18446744073709551616
/-- v is a slice of n glasses, to be read. -/
def RdG (w : World) (v : Value) (n : Nat) (G : Nat → Gl) : Prop :=
  (∃ ao cap, v = .slice ao 0 cap ∧ n = 0) ∨ ∃ b off cap, v = .slice (some ⟨b, off, none⟩) n cap ∧ ∀ i, i < n → ∃ k, SixAt w b (off + i * 6) (G i) k ∧ RdRow w k (G i).n (G i).f
theorem RdG.later {w w' : World} {v : Value} {n : Nat} {G : Nat → Gl} (h : RdG w v n G) (hb : Below w.heap.size w w') : RdG w' v n G := by
  rcases h with h | ⟨b, off, cap, rfl, h⟩
  · exact Or.inl h
  · refine Or.inr ⟨b, off, cap, rfl, fun i hi => ?_⟩
    obtain ⟨k, h1, h2⟩ := h i hi
    exact ⟨k, h1.later hb, h2.later hb⟩
theorem RdG.shape {w : World} {v : Value} {n : Nat} {G : Nat → Gl} (h : RdG w v n G) : ∃ ao cap, v = .slice ao n cap := by
  rcases h with ⟨ao, cap, rfl, rfl⟩ | ⟨b, off, cap, rfl, _⟩
  · exact ⟨ao, cap, rfl⟩
  · exact ⟨_, cap, rfl⟩
/-- What a list of glasses leaves of a bound: less than nothing, or the rest. -/
def Sz (G : Nat → Gl) : Nat → Nat
  | 0 => 0
  | k + 1 => Sz G k + (G k).s.size + (G k).n
theorem Sz_le {G : Nat → Gl} {k n : Nat} (h : k ≤ n) : Sz G k ≤ Sz G n := by
  induction n with
  | zero => have : k = 0 := by omega
            subst this; exact Nat.le_refl _
  | succ n ih =>
    by_cases e : k = n + 1
    · subst e; exact Nat.le_refl _
    · have := ih (by omega); simp only [Sz]; omega
theorem Sz_at {G : Nat → Gl} {i n : Nat} (h : i < n) : (G i).s.size + (G i).n ≤ Sz G n := by
  have := Sz_le (G := G) (show i + 1 ≤ n by omega)
  simp only [Sz] at this
  omega
set_option maxHeartbeats 1600000 in
theorem szGS_any {w : World} {v : Value} {n : Nat} {G : Nat → Gl} (h : RdG w v n G) (hn : n ≤ 9223372036854775807) (hg : ∀ i, i < n → GlOk (G i)) :
    Calls Tryd.prog 33 #[v, .int .i64 1048576] w fun e w' => ∃ r : Int, e = .returned (.int .i64 r) ∧ (r < 0 ∨ (n ≤ 1048576 ∧ Sz G n ≤ 1048576)) ∧ Below w.heap.size w w' := by
  by_cases hbig : 1048576 < n
  · obtain ⟨ao, cap, rfl⟩ := h.shape
    have hb2 : (1048576 : Int) - n < 0 := by omega
    clear h hg
    go_enter Tryd.func33, Tryd.ntmps33
    go_wp2
    go_ret
    exact ⟨-1, rfl, Or.inl (by omega), Below.refl _ _⟩
  rcases h with ⟨ao, cap, rfl, rfl⟩ | ⟨b, off, cap, rfl, hc⟩
  · clear hg
    go_enter Tryd.func33, Tryd.ntmps33
    go_wp2_with fail
    refine wp_loop_rounds 1 ?_
    rw [rounds_succ]
    go_wp2
    go_ret
    exact ⟨_, rfl, Or.inr ⟨by omega, by simp [Sz]⟩, Below.refl _ _⟩
  · have HC : Hid (∀ i, i < n → ∃ k, SixAt w b (off + i * 6) (G i) k ∧ RdRow w k (G i).n (G i).f) := hc
    have HG : Hid (∀ i, i < n → GlOk (G i)) := hg
    have hb2 : ¬ ((1048576 : Int) - n < 0) := by omega
    clear hc hg
    go_enter Tryd.func33, Tryd.ntmps33
    go_wp2_with fail
    go_loopw [1, 5] (fun q i wr => ∃ (k : Nat) (r : Int), k ≤ n ∧ i = .int .i64 k ∧ q = .int .i64 r ∧ 0 ≤ r ∧ r + n + Sz G k = 1048576 ∧ Below w.heap.size w wr) (fun _ i _ => n - (intOf i).toNat)
    case atStart => exact ⟨0, _, Nat.zero_le _, rfl, rfl, by omega, by simp [Sz], Below.refl _ _⟩
    case round =>
      obtain ⟨k, r, hk, rfl, rfl, hr0, hr1, hbel⟩ := hrel
      by_cases hkn : k < n
      · obtain ⟨kv, h6, hrow⟩ := HC.out k hkn
        obtain ⟨c0, c1, c2, c3, c4, c5⟩ := h6.later hbel
        obtain ⟨ao, cp, rfl⟩ := hrow.shape
        have hok := HG.out k hkn
        have HB : Hid (Below w.heap.size w wr) := hbel
        clear hbel h6 hrow
        have hq : szG ((G k).s.size) (G k).n r < 0 ∨ (szG ((G k).s.size) (G k).n r = r - (G k).s.size - (G k).n ∧ ((G k).s.size : Int) + (G k).n ≤ r) := by
          by_cases e : szG ((G k).s.size) (G k).n r < 0
          · exact Or.inl e
          · exact Or.inr (szG_no e)
        go_wp2_with fail
        refine (szG_any _ _ _ _ _ _ _ _ r _ hr0 (by omega) hok.hn hok.hs).mono ?_
        rintro e w1 ⟨rfl, b1⟩
        have HB1 : Hid (Below w.heap.size w w1) := box_step HB.out b1 (Nat.le_refl _)
        generalize hz : szG ((G k).s.size) (G k).n r = z at *
        clear b1 hz hok c0 c1 c2 c3 c4 c5 HB
        rcases hq with hq | ⟨hq, hq2⟩
        · go_wp2
          go_ret
          exact ⟨-1, rfl, Or.inl (by omega), HB1.out⟩
        · have hz0 : ¬ z < 0 := by omega
          have HZ : Hid (0 ≤ z ∧ z + n + Sz G (k + 1) = 1048576) := ⟨by omega, by simp only [Sz]; omega⟩
          clear hq hq2
          go_wp2
          go_roundw
          case rel => exact ⟨k + 1, _, by omega, by simp, rfl, HZ.out.1, HZ.out.2, HB1.out⟩
          case measure => simp [intOf]; omega
      · obtain rfl : k = n := by omega
        go_wp2
        go_ret
        exact ⟨r, rfl, Or.inr ⟨by omega, by omega⟩, hbel⟩
end Go.Proofs.YtndfncjoknibaaaDoor
