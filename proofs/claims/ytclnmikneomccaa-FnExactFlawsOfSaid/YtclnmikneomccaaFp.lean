/- Flaws, plainly; near rectangles, the flaws of one rectangle: contracts of the program. -/
import Derived.Test.YtclnmikneomccaaUr
import Derived.Test.YtclnmikneomccaaLf
namespace Go.Proofs.Ytclnmikneomccaa
open Go.RowKit Go.Maps
set_option linter.unusedVariables false
set_option linter.unusedSimpArgs false
def wideB (a : R.G) (r : U.G) : Bool := decide (min (a.xb - a.xa) (a.yb - a.ya) < r.wd)
def gapX (a b : R.G) : Int := max 0 (-(cmn a.xa a.xb b.xa b.xb))
def gapY (a b : R.G) : Int := max 0 (-(cmn a.ya a.yb b.ya b.yb))
def nearB (a b : R.G) (s : Int) : Bool := decide (gapX a b < s) && decide (gapY a b < s)
/-- Two rectangles of a layer and of two nets that lie too near. -/
def badB (S : Nat → R.G) (X : Nat → Int) (r : U.G) (i j : Nat) : Bool := ((S j).ly == (S i).ly) && ((X j != X i) && nearB (S i) (S j) r.sp)
def fbase (i : Nat) (a : R.G) (r : U.G) : List Fw.G := if wideB a r then [⟨1, i, i⟩] else []
/-- The flaws of rectangle i with those ahead of k. -/
def fj (S : Nat → R.G) (X : Nat → Int) (r : U.G) (i : Nat) : Nat → List Fw.G
  | 0 => fbase i (S i) r
  | k + 1 => fj S X r i k ++ if i < k ∧ badB S X r i k = true then [⟨2, i, k⟩] else []
theorem fj_low {S : Nat → R.G} {X : Nat → Int} {r : U.G} {i : Nat} : ∀ k, k ≤ i + 1 → fj S X r i k = fbase i (S i) r
  | 0, _ => rfl
  | k + 1, h => by
    have : ¬ (i < k ∧ badB S X r i k = true) := fun c => by omega
    have ih := fj_low (S := S) (X := X) (r := r) (i := i) k (by omega)
    simp [fj, ih, this]
theorem fj_yes {S : Nat → R.G} {X : Nat → Int} {r : U.G} {i k : Nat} (hk : i < k) (hb : badB S X r i k = true) : fj S X r i (k + 1) = fj S X r i k ++ [⟨2, i, k⟩] := by simp [fj, hk, hb]
theorem fj_no {S : Nat → R.G} {X : Nat → Int} {r : U.G} {i k : Nat} (hb : badB S X r i k = false) : fj S X r i (k + 1) = fj S X r i k := by simp [fj, hb]
theorem fj_len {S : Nat → R.G} {X : Nat → Int} {r : U.G} {i : Nat} : ∀ k, (fj S X r i k).length ≤ k + 1
  | 0 => by unfold fj fbase; split <;> simp
  | k + 1 => by
    have := fj_len (S := S) (X := X) (r := r) (i := i) k
    simp only [fj, List.length_append]
    split <;> simp <;> omega
/-- All flaws of the rectangles ahead of i. -/
def fall (S : Nat → R.G) (X : Nat → Int) (Ru : Nat → U.G) (m n : Nat) : Nat → List Fw.G
  | 0 => []
  | i + 1 => fall S X Ru m n i ++ fj S X (frl Ru m (S i).ly) i n
theorem fall_len {S : Nat → R.G} {X : Nat → Int} {Ru : Nat → U.G} {m n : Nat} : ∀ i, (fall S X Ru m n i).length ≤ i * (n + 1)
  | 0 => by simp [fall]
  | i + 1 => by
    have h1 := fall_len (S := S) (X := X) (Ru := Ru) (m := m) (n := n) i
    have h2 := fj_len (S := S) (X := X) (r := frl Ru m (S i).ly) (i := i) n
    simp only [fall, List.length_append]
    rw [Nat.add_mul, Nat.one_mul]
    omega
def flaws (L : List Fw.G) : List Value := L.flatMap Fw.spl
theorem flaws_len (L : List Fw.G) : (flaws L).length = L.length * 3 := by
  unfold flaws
  induction L with
  | nil => rfl
  | cons a t ih => simp [List.flatMap_cons, Fw.spl, ih]; omega
theorem flaws_app (L M : List Fw.G) : flaws (L ++ M) = flaws L ++ flaws M := by unfold flaws; rw [List.flatMap_append]
def fget (L : List Fw.G) : Nat → Fw.G := fun i => L.getD i Fw.zsp
theorem flaws_flat (L : List Fw.G) : flat (fun i => Fw.spl (fget L i)) L.length = flaws L := by
  have e : (List.range L.length).map (fget L) = L := by
    apply List.ext_getElem
    · simp
    · intro i h1 h2
      simp [fget, List.getD, h2]
  unfold flat flaws
  have h2 := List.flatMap_map (fget L) Fw.spl (List.range L.length)
  rw [e] at h2
  rw [h2]
/-- A list of flaws of its own, built by append. -/
def Wl (w : World) (lo : Nat) (v : Value) (L : List Fw.G) : Prop := w.ownsRow lo 81 3 v L.length (flaws L)
theorem Wl.later {w w' : World} {lo : Nat} {v : Value} {L : List Fw.G} (h : Wl w lo v L) (hb : Below w.heap.size w w') : Wl w' lo v L := ownsV_later h hb
theorem Wl.keepOn {w w' : World} {lo : Nat} {v : Value} {L : List Fw.G} (h : Wl w lo v L) (hk : ∀ k, v.ownBlock = some k → w'.heap[k]? = w.heap[k]?) : Wl w' lo v L := by
  obtain ⟨h0, h1 | ⟨g, cap, cur, hv, hg, hh, r⟩⟩ := h
  · exact ⟨h0, Or.inl h1⟩
  · exact ⟨h0, Or.inr ⟨g, cap, cur, hv, hg, (hk g (by rw [hv]; rfl)).trans hh, r⟩⟩
theorem Wl.low {w : World} {lo lo' : Nat} {v : Value} {L : List Fw.G} (h : Wl w lo v L) (hl : lo' ≤ lo) : Wl w lo' v L := by
  obtain ⟨h0, h1 | ⟨g, cap, cur, hv, hg, r⟩⟩ := h
  · exact ⟨h0, Or.inl h1⟩
  · exact ⟨h0, Or.inr ⟨g, cap, cur, hv, Nat.le_trans hl hg, r⟩⟩
theorem Wl.form {w : World} {lo : Nat} {v : Value} {L : List Fw.G} (h : Wl w lo v L) : ∃ ao cap, v = .slice ao L.length cap := by
  obtain ⟨_, h1 | ⟨g, cap, cur, hv, hg, hh, h1, h2, h3, h4⟩⟩ := h
  · rw [h1.2]; exact ⟨_, _, h1.1⟩
  · exact ⟨_, _, hv⟩
theorem Wl.nil (w : World) (lo : Nat) : Wl w lo (.slice none 0 0) [] := ownsV_nil w lo 81 3
theorem Wl.owj {w : World} {lo hi : Nat} {v : Value} {L : List Fw.G} (h : Wl w lo v L) (hh : w.heap.size ≤ hi) : Fw.OwJ lo hi w v L.length (fget L) := Fw.OwJ.of (by rw [flaws_flat]; exact h) hh
theorem pushW {ops : Array Oper} {rest : List Oper} {o : Oper} {a : Act} {Q : Exit → Act → World → Prop} (hgd : o.guard = none) (s x : Operand)
    (ho : o.op = .call { callee := .builtin .append, args := #[s, x], argTypes := #[43, 43] }) (w : World) (g : Fw.G) (lo : Nat) (v : Value) (L : List Fw.G) (hs : a.eval s = v) (hown : Wl w lo v L) (c : Nat) (hx : a.eval x = .slice (some ⟨w.heap.size, 0, none⟩) 1 c) (hk : L.length ≤ 1000000000) (hbase : lo ≤ w.heap.size)
    (h : ∀ v' w', Wl w' lo v' (L ++ [g]) → Below lo w w' → wpList Try.prog ops Q rest (a.put o.dst v') w') :
    wpList Try.prog ops Q (o :: rest) a (w.alloc (.cells #[.int .i64 g.kd, .int .i64 g.pi, .int .i64 g.pj] 81)) := by
  refine pushV hgd s x 43 ho 81 _ 3 24 Try.underlying43 Fw.infoE rfl (by decide) (by decide) w (Fw.spl g) rfl (by intro u hu; simp [Fw.spl] at hu; rcases hu with rfl | rfl | rfl <;> rfl) lo v L.length _ hs hown c hx (by omega) hbase fun v' w' r1 r2 _ => h v' w' ?_ ?_
  · show w'.ownsRow lo 81 3 v' (L ++ [g]).length (flaws (L ++ [g]))
    rw [flaws_app, List.length_append]
    exact r1
  · exact ((Below.refl lo w).alloc hbase _).grown r2 (by simp; omega) fun b hb => (hown.lt b hb).1
end Go.Proofs.Ytclnmikneomccaa
