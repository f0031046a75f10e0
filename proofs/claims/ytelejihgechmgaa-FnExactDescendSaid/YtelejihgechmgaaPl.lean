/- Chains of spans, aims and merits, plainly: no program. -/
import Derived.Test.YtelejihgechmgaaNums
namespace Go.Proofs.Ytelejihgechmgaa
namespace Mt
structure Sp where
  km : Int
  loss : Int
  gain : Int
  tilt : Int
def inR (n lo hi : Int) : Bool := decide (lo ≤ n) && decide (n ≤ hi)
theorem inR_iff {n lo hi : Int} : inR n lo hi = true ↔ lo ≤ n ∧ n ≤ hi := by unfold inR; simp
theorem inR_not {n lo hi : Int} : inR n lo hi = false ↔ n < lo ∨ hi < n := by unfold inR; simp; omega
/-- A span is right. -/
def okS (s : Sp) : Bool := inR s.km 1 1000 && inR s.loss 0 1000 && inR s.gain (-100000) 100000 && inR s.tilt (-10000) 10000
theorem okS_iff {s : Sp} : okS s = true ↔ (1 ≤ s.km ∧ s.km ≤ 1000) ∧ (0 ≤ s.loss ∧ s.loss ≤ 1000) ∧ (-100000 ≤ s.gain ∧ s.gain ≤ 100000) ∧ (-10000 ≤ s.tilt ∧ s.tilt ≤ 10000) := by
  unfold okS; simp only [Bool.and_eq_true, inR_iff]; exact ⟨fun ⟨⟨⟨a, b⟩, c⟩, d⟩ => ⟨a, b, c, d⟩, fun ⟨a, b, c, d⟩ => ⟨⟨⟨a, b⟩, c⟩, d⟩⟩
/-- The first k are right. -/
def all (P : Nat → Bool) : Nat → Bool
  | 0 => true
  | k + 1 => all P k && P k
theorem all_at {P : Nat → Bool} : ∀ {n : Nat}, all P n = true → ∀ k, k < n → P k = true
  | 0, _, k, hk => absurd hk (Nat.not_lt_zero _)
  | n + 1, h, k, hk => by
    have h' : (all P n && P n) = true := h
    rw [Bool.and_eq_true] at h'
    by_cases e : k = n
    · subst e; exact h'.2
    · exact all_at h'.1 k (by omega)
theorem all_next {P : Nat → Bool} {k : Nat} (h : all P k = true) (hp : P k = true) : all P (k + 1) = true := by
  show (all P k && P k) = true
  rw [h, hp]; rfl
theorem all_hit {P : Nat → Bool} : ∀ {n k : Nat}, k < n → P k = false → all P n = false
  | 0, k, hk, _ => absurd hk (Nat.not_lt_zero _)
  | n + 1, k, hk, h => by
    show (all P n && P n) = false
    by_cases e : k = n
    · subst e; rw [h, Bool.and_false]
    · rw [all_hit (show k < n by omega) h]; rfl
def ccode (S : Nat → Sp) (n : Nat) (start : Int) : Int :=
  if 100 < n then 2 else if all (fun k => okS (S k)) n then (if inR start (-100000) 100000 then 0 else 3) else 3
/-- The level behind k spans, the least one there is up to there, the sum of the tilts. -/
def lv (S : Nat → Sp) (start : Int) : Nat → Int
  | 0 => start
  | k + 1 => lv S start k - (S k).km * (S k).loss + (S k).gain
def low (S : Nat → Sp) (start : Int) (k : Nat) : Int := lv S start k - (S k).km * (S k).loss
def ls (S : Nat → Sp) (start : Int) : Nat → Int
  | 0 => start
  | k + 1 => min (min (ls S start k) (low S start k)) (lv S start (k + 1))
def tl (S : Nat → Sp) : Nat → Int
  | 0 => 0
  | k + 1 => tl S k + (S k).tilt
/-- The levels, up to that behind n spans. -/
def lvs (S : Nat → Sp) (start : Int) (n : Nat) : List Int := (List.range (n + 1)).map (lv S start)
theorem lvs_zero (S : Nat → Sp) (start : Int) : lvs S start 0 = [start] := rfl
theorem lvs_next (S : Nat → Sp) (start : Int) (n : Nat) : lvs S start n ++ [lv S start (n + 1)] = lvs S start (n + 1) := by unfold lvs; rw [List.range_succ (n := n + 1)]; simp
theorem lvs_len (S : Nat → Sp) (start : Int) (n : Nat) : (lvs S start n).length = n + 1 := by simp [lvs]
structure Good (S : Nat → Sp) (n : Nat) (start : Int) : Prop where
  n100 : n ≤ 100
  ok : ∀ k, k < n → okS (S k) = true
  st : -100000 ≤ start ∧ start ≤ 100000
theorem good {S : Nat → Sp} {n : Nat} {start : Int} (h : ccode S n start = 0) : Good S n start := by
  unfold ccode at h
  split at h
  · omega
  · split at h
    · split at h
      · exact ⟨by omega, all_at ‹_›, inR_iff.1 ‹_›⟩
      · omega
    · omega
theorem loss_b {s : Sp} (h : okS s = true) : 0 ≤ s.km * s.loss ∧ s.km * s.loss ≤ 1000000 := by
  obtain ⟨⟨a, b⟩, ⟨c, d⟩, _⟩ := okS_iff.1 h
  refine ⟨Int.mul_nonneg (by omega) c, ?_⟩
  have h1 : s.km * s.loss ≤ 1000 * s.loss := Int.mul_le_mul_of_nonneg_right b c
  omega
theorem lv_b {S : Nat → Sp} {n : Nat} {start : Int} (G : Good S n start) : ∀ {k : Nat}, k ≤ n → -100000 - 1100000 * (k : Int) ≤ lv S start k ∧ lv S start k ≤ 100000 + 100000 * (k : Int)
  | 0, _ => by have := G.st; show -100000 - 1100000 * ((0 : Nat) : Int) ≤ start ∧ start ≤ _; omega
  | k + 1, hk => by
    have h1 := lv_b G (show k ≤ n by omega)
    have h2 := loss_b (G.ok k (by omega))
    have h3 := (okS_iff.1 (G.ok k (by omega))).2.2.1
    show _ ≤ lv S start k - (S k).km * (S k).loss + (S k).gain ∧ lv S start k - (S k).km * (S k).loss + (S k).gain ≤ _
    omega
theorem ls_b {S : Nat → Sp} {n : Nat} {start : Int} (G : Good S n start) : ∀ {k : Nat}, k ≤ n → -100000 - 1100000 * (k : Int) ≤ ls S start k ∧ ls S start k ≤ 100000
  | 0, _ => by have := G.st; show -100000 - 1100000 * ((0 : Nat) : Int) ≤ start ∧ start ≤ _; omega
  | k + 1, hk => by
    have h0 := lv_b G (show k ≤ n by omega)
    have h1 := ls_b G (show k ≤ n by omega)
    have h2 := loss_b (G.ok k (by omega))
    have h4 := lv_b G (show k + 1 ≤ n by omega)
    have e : low S start k = lv S start k - (S k).km * (S k).loss := rfl
    show _ ≤ min (min (ls S start k) (low S start k)) (lv S start (k + 1)) ∧ min (min (ls S start k) (low S start k)) (lv S start (k + 1)) ≤ _
    omega
theorem tl_b {S : Nat → Sp} {n : Nat} {start : Int} (G : Good S n start) : ∀ {k : Nat}, k ≤ n → -10000 * (k : Int) ≤ tl S k ∧ tl S k ≤ 10000 * (k : Int)
  | 0, _ => by show -10000 * ((0 : Nat) : Int) ≤ 0 ∧ (0 : Int) ≤ 10000 * ((0 : Nat) : Int); omega
  | k + 1, hk => by
    have h1 := tl_b G (show k ≤ n by omega)
    have h3 := (okS_iff.1 (G.ok k (by omega))).2.2.2
    show _ ≤ tl S k + (S k).tilt ∧ tl S k + (S k).tilt ≤ _
    omega
def mcode (S : Nat → Sp) (n : Nat) (start fl : Int) : Int :=
  if ccode S n start = 0 then (if inR fl (-1000000000) 1000000000 then 0 else 3) else ccode S n start
def margin (S : Nat → Sp) (n : Nat) (start fl : Int) : Int := if mcode S n start fl = 0 then ls S start n - fl else 0
/-- The levels told: none where there is a code. -/
def cn (S : Nat → Sp) (n : Nat) (start : Int) : Nat := if ccode S n start = 0 then n + 1 else 0
def cl (S : Nat → Sp) (n : Nat) (start : Int) : Int := if ccode S n start = 0 then ls S start n else 0
def ct (S : Nat → Sp) (n : Nat) (start : Int) : Int := if ccode S n start = 0 then tl S n else 0
/-- The first code but 0 of the first k. -/
def fst (c : Nat → Int) : Nat → Int
  | 0 => 0
  | k + 1 => if fst c k = 0 then c k else fst c k
def at4 (c0 c1 c2 c3 : Int) : Nat → Int
  | 0 => c0
  | 1 => c1
  | 2 => c2
  | _ => c3
theorem four (a b c d : Bool) : fst (at4 (if a then 0 else 3) (if b then 0 else 3) (if c then 0 else 3) (if d then 0 else 3)) 4 = if (((a && b) && c) && d) then 0 else 3 := by
  cases a <;> cases b <;> cases c <;> cases d <;> rfl
theorem fst1 (f : Nat → Int) : fst f 1 = f 0 := rfl
theorem fst2 (f : Nat → Int) : fst f 2 = if f 0 = 0 then f 1 else f 0 := rfl
theorem fst3 (f : Nat → Int) : fst f 3 = if f 0 = 0 then (if f 1 = 0 then f 2 else f 1) else f 0 := by
  show (if fst f 2 = 0 then f 2 else fst f 2) = _
  rw [fst2]
  by_cases h : f 0 = 0
  · rw [if_pos h, if_pos h]
  · rw [if_neg h, if_neg h, if_neg h]
theorem fst4 (f : Nat → Int) : fst f 4 = if f 0 = 0 then (if f 1 = 0 then (if f 2 = 0 then f 3 else f 2) else f 1) else f 0 := by
  show (if fst f 3 = 0 then f 3 else fst f 3) = _
  rw [fst3]
  by_cases h : f 0 = 0
  · rw [if_pos h, if_pos h]
    by_cases h1 : f 1 = 0
    · rw [if_pos h1, if_pos h1]
    · rw [if_neg h1, if_neg h1, if_neg h1]
  · rw [if_neg h, if_neg h, if_neg h]
theorem all1 (P : Nat → Bool) : all P 1 = P 0 := by show (true && P 0) = P 0; rw [Bool.true_and]
/-- An aim: a row of np numbers, and what is wanted. -/
structure Am where
  np : Nat
  p : Nat → Int
  want : Int
/-- What is wrong with one aim. -/
def aone (dims : Int) (a : Am) : Int :=
  if (a.np : Int) = dims then (if all (fun k => inR (a.p k) (-1000) 1000) a.np then (if inR a.want (-100000) 100000 then 0 else 3) else 3) else 1
theorem fst_next {c : Nat → Int} {k : Nat} (h : fst c k = 0) (hc : c k = 0) : fst c (k + 1) = 0 := by
  show (if fst c k = 0 then c k else fst c k) = 0
  rw [if_pos h, hc]
theorem fst_hit {c : Nat → Int} {k : Nat} (h : fst c k = 0) (hc : c k ≠ 0) : ∀ {n : Nat}, k < n → fst c n = c k
  | 0, hk => absurd hk (Nat.not_lt_zero _)
  | n + 1, hk => by
    show (if fst c n = 0 then c n else fst c n) = _
    by_cases e : k = n
    · subst e; rw [if_pos h]
    · rw [fst_hit h hc (show k < n by omega), if_neg hc]
theorem fst_all {c : Nat → Int} : ∀ {n : Nat}, fst c n = 0 → ∀ k, k < n → c k = 0
  | 0, _, k, hk => absurd hk (Nat.not_lt_zero _)
  | n + 1, h, k, hk => by
    have e : (if fst c n = 0 then c n else fst c n) = 0 := h
    by_cases z : fst c n = 0
    · rw [if_pos z] at e
      by_cases q : k = n
      · subst q; exact e
      · exact fst_all z k (by omega)
    · rw [if_neg z] at e; exact absurd e z
def acode (A : Nat → Am) (n : Nat) (dims : Int) : Int :=
  if inR dims 1 10 then (if 20 < n then 2 else fst (fun k => aone dims (A k)) n) else 1
/-- How far an aim is missed: the sum of the first k products, less what is wanted. -/
def off (a : Am) (x : Nat → Int) : Nat → Int
  | 0 => -a.want
  | k + 1 => off a x k + a.p k * x k
def sq (A : Nat → Am) (d : Nat) (x : Nat → Int) : Nat → Int
  | 0 => 0
  | k + 1 => sq A d x k + off (A k) x d * off (A k) x d
def place (x : Nat → Int) (d : Nat) : Bool := all (fun k => inR (x k) (-10000) 10000) d
def tcode (A : Nat → Am) (n d : Nat) (x : Nat → Int) : Int :=
  if acode A n d = 0 then (if place x d then 0 else 3) else acode A n d
def merit (A : Nat → Am) (n d : Nat) (x : Nat → Int) : Int := if tcode A n d x = 0 then sq A d x n else 0
structure AGood (A : Nat → Am) (n d : Nat) : Prop where
  d1 : 1 ≤ d
  d10 : d ≤ 10
  n20 : n ≤ 20
  np : ∀ k, k < n → (A k).np = d
  row : ∀ k, k < n → ∀ i, i < d → -1000 ≤ (A k).p i ∧ (A k).p i ≤ 1000
  want : ∀ k, k < n → -100000 ≤ (A k).want ∧ (A k).want ≤ 100000
theorem aone_good {d : Nat} {a : Am} (h : aone d a = 0) : a.np = d ∧ (∀ i, i < d → -1000 ≤ a.p i ∧ a.p i ≤ 1000) ∧ (-100000 ≤ a.want ∧ a.want ≤ 100000) := by
  unfold aone at h
  split at h
  · rename_i e
    have e' : a.np = d := by omega
    split at h
    · rename_i hall
      split at h
      · rename_i hw
        exact ⟨e', fun i hi => inR_iff.1 (all_at hall i (by omega)), inR_iff.1 hw⟩
      · omega
    · omega
  · omega
theorem agood {A : Nat → Am} {n d : Nat} (h : acode A n d = 0) : AGood A n d := by
  unfold acode at h
  split at h
  · rename_i hd
    have hd' := inR_iff.1 hd
    split at h
    · omega
    · have H := fst_all h
      exact ⟨by omega, by omega, by omega, fun k hk => (aone_good (H k hk)).1, fun k hk => (aone_good (H k hk)).2.1, fun k hk => (aone_good (H k hk)).2.2⟩
  · omega
theorem prod_b {a b A B : Int} (ha : -A ≤ a) (ha' : a ≤ A) (hb : -B ≤ b) (hb' : b ≤ B) : -(A * B) ≤ a * b ∧ a * b ≤ A * B := by
  have h1 : 0 ≤ (A - a) * (B + b) := Int.mul_nonneg (by omega) (by omega)
  have h2 : 0 ≤ (A + a) * (B - b) := Int.mul_nonneg (by omega) (by omega)
  have h3 : 0 ≤ (A - a) * (B - b) := Int.mul_nonneg (by omega) (by omega)
  have h4 : 0 ≤ (A + a) * (B + b) := Int.mul_nonneg (by omega) (by omega)
  simp only [Int.sub_mul, Int.add_mul, Int.mul_sub, Int.mul_add] at h1 h2 h3 h4
  omega
/-- Points whose numbers are no further than 12000. -/
theorem off_b {A : Nat → Am} {n d : Nat} {x : Nat → Int} (G : AGood A n d) {i : Nat} (hi : i < n) (hx : ∀ k, k < d → -12000 ≤ x k ∧ x k ≤ 12000) : ∀ {k : Nat}, k ≤ d → -100000 - 12000000 * (k : Int) ≤ off (A i) x k ∧ off (A i) x k ≤ 100000 + 12000000 * (k : Int)
  | 0, _ => by have := G.want i hi; show -100000 - 12000000 * ((0 : Nat) : Int) ≤ -(A i).want ∧ -(A i).want ≤ _; omega
  | k + 1, hk => by
    have h1 := off_b G hi hx (show k ≤ d by omega)
    have h2 := G.row i hi k (by omega)
    have h3 := hx k (by omega)
    have h4 := prod_b h2.1 h2.2 h3.1 h3.2
    show _ ≤ off (A i) x k + (A i).p k * x k ∧ off (A i) x k + (A i).p k * x k ≤ _
    omega
theorem prodk_b {A : Nat → Am} {n d : Nat} {x : Nat → Int} (G : AGood A n d) {i k : Nat} (hi : i < n) (hk : k < d) (hx : -12000 ≤ x k ∧ x k ≤ 12000) : -12000000 ≤ (A i).p k * x k ∧ (A i).p k * x k ≤ 12000000 := by
  have h2 := G.row i hi k hk
  have h4 := prod_b h2.1 h2.2 hx.1 hx.2
  omega
theorem sqr_b {A : Nat → Am} {n d : Nat} {x : Nat → Int} (G : AGood A n d) {i : Nat} (hi : i < n) (hx : ∀ k, k < d → -12000 ≤ x k ∧ x k ≤ 12000) : 0 ≤ off (A i) x d * off (A i) x d ∧ off (A i) x d * off (A i) x d ≤ 14424010000000000 := by
  have h1 := off_b G hi hx (Nat.le_refl d)
  have h2 : (d : Int) ≤ 10 := by have := G.d10; omega
  have h3 := prod_b (a := off (A i) x d) (b := off (A i) x d) (A := 120100000) (B := 120100000) (by omega) (by omega) (by omega) (by omega)
  have h4 : 0 ≤ off (A i) x d * off (A i) x d := by
    rcases Int.le_total 0 (off (A i) x d) with h | h
    · exact Int.mul_nonneg h h
    · exact Int.mul_nonneg_of_nonpos_of_nonpos h h
  omega
theorem sq_b {A : Nat → Am} {n d : Nat} {x : Nat → Int} (G : AGood A n d) (hx : ∀ k, k < d → -12000 ≤ x k ∧ x k ≤ 12000) : ∀ {k : Nat}, k ≤ n → 0 ≤ sq A d x k ∧ sq A d x k ≤ 14424010000000000 * (k : Int)
  | 0, _ => by show 0 ≤ (0 : Int) ∧ (0 : Int) ≤ 14424010000000000 * ((0 : Nat) : Int); omega
  | k + 1, hk => by
    have h1 := sq_b G hx (show k ≤ n by omega)
    have h2 := sqr_b G (i := k) (by omega) hx
    show 0 ≤ sq A d x k + off (A k) x d * off (A k) x d ∧ sq A d x k + off (A k) x d * off (A k) x d ≤ _
    omega
theorem place_at {x : Nat → Int} {d : Nat} (h : place x d = true) : ∀ k, k < d → -12000 ≤ x k ∧ x k ≤ 12000 := fun k hk => by
  have := inR_iff.1 (all_at h k hk); omega
end Mt
end Go.Proofs.Ytelejihgechmgaa
