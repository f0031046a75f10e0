/- Lights, their faults, and whose each slot is, plainly: no program. -/
import Derived.Test.YtfpklfpcencimaaNm
namespace Go.Proofs.Ytfpklfpcencimaa.Nt
structure Li where
  id : Int
  fr : Int
  tt : Int
  np : Nat
  p : Nat → Int
  fi : Int
  wd : Int
def nilL : Li := ⟨0, 0, 0, 0, fun _ => 0, 0, 0⟩
def has (p : Nat → Int) (n : Nat) (v : Int) : Bool := any (fun k => p k == v) n
theorem has_iff {p : Nat → Int} {n : Nat} {v : Int} : has p n v = true ↔ ∃ k, k < n ∧ p k = v := by
  unfold has; rw [any_iff]; simp
/-- A light has slot s of fibre f. -/
def hasS (x : Li) (f s : Int) : Bool := has x.p x.np f && decide (x.fi ≤ s) && decide (s < x.fi + x.wd)
theorem hasS_iff {x : Li} {f s : Int} : hasS x f s = true ↔ (∃ k, k < x.np ∧ x.p k = f) ∧ x.fi ≤ s ∧ s < x.fi + x.wd := by
  unfold hasS
  simp only [Bool.and_eq_true, decide_eq_true_eq, has_iff, and_assoc]
/-- The two lights' slots meet on one fibre. -/
def share (x y : Li) : Bool := any (fun k => has y.p y.np (x.p k)) x.np
def meets (x y : Li) : Bool := !(decide (x.fi + x.wd ≤ y.fi) || decide (y.fi + y.wd ≤ x.fi)) && share x y
def rngB (slots : Int) (x : Li) : Bool := decide (x.wd < 1) || decide (64 < x.wd) || decide (x.fi < 0) || decide (64 < x.fi) || decide (slots < x.fi + x.wd)
/-- What is wrong with light i. -/
def lcode (nodes slots : Int) (nf : Nat) (F : Nat → Fb) (L : Nat → Li) (i : Nat) : Int :=
  if (L i).id < 1 ∨ (0 < i ∧ (L i).id ≤ (L (i - 1)).id) then 1
  else if rfault nodes slots nf F (L i).fr (L i).tt (L i).np (L i).p = 0 then
    (if rngB slots (L i) = true then 3 else if any (fun k => meets (L i) (L k)) i = true then 7 else 0)
  else rfault nodes slots nf F (L i).fr (L i).tt (L i).np (L i).p
def lfault (nodes slots : Int) (nf : Nat) (F : Nat → Fb) (nl : Nat) (L : Nat → Li) : Int :=
  if nfault nodes slots nf F = 0 then (if 40 < (nl : Int) then 2 else fst (lcode nodes slots nf F L) nl) else nfault nodes slots nf F
/-- A light without fault. -/
structure LOk (nodes slots : Int) (nf : Nat) (F : Nat → Fb) (x : Li) : Prop where
  id1 : 1 ≤ x.id
  rf : rfault nodes slots nf F x.fr x.tt x.np x.p = 0
  w1 : 1 ≤ x.wd
  f0 : 0 ≤ x.fi
  top : x.fi + x.wd ≤ slots
theorem rng_no {slots : Int} {x : Li} (h : rngB slots x = false) : 1 ≤ x.wd ∧ 0 ≤ x.fi ∧ x.fi + x.wd ≤ slots := by
  unfold rngB at h
  simp only [Bool.or_eq_false_iff, decide_eq_false_iff_not] at h
  omega
theorem rng_is {slots : Int} {x : Li} (h : slots ≤ 64) : rngB slots x = true ↔ (x.wd < 1 ∨ x.fi < 0 ∨ slots - x.fi < x.wd) := by
  unfold rngB
  simp only [Bool.or_eq_true, decide_eq_true_eq]
  omega
theorem lcode_nil {nodes slots : Int} {nf : Nat} {F : Nat → Fb} {L : Nat → Li} {i : Nat} (h : lcode nodes slots nf F L i = 0) :
    LOk nodes slots nf F (L i) ∧ (0 < i → (L (i - 1)).id < (L i).id) ∧ any (fun k => meets (L i) (L k)) i = false := by
  unfold lcode at h
  split at h
  · omega
  · rename_i a
    split at h
    · rename_i b
      split at h
      · omega
      · rename_i c
        split at h
        · omega
        · rename_i d
          have := rng_no (by simpa using c)
          exact ⟨⟨by omega, b, this.1, this.2.1, this.2.2⟩, by omega, by simpa using d⟩
    · rename_i b; exact absurd h b
/-- All lights ahead of n are without fault. -/
structure AllOk (nodes slots : Int) (nf : Nat) (F : Nat → Fb) (n : Nat) (L : Nat → Li) : Prop where
  ok : ∀ i, i < n → LOk nodes slots nf F (L i)
  up : ∀ i, i + 1 < n → (L i).id < (L (i + 1)).id
  apart : ∀ i, i < n → ∀ k, k < i → meets (L i) (L k) = false
theorem allOk {nodes slots : Int} {nf : Nat} {F : Nat → Fb} {n : Nat} {L : Nat → Li} (h : fst (lcode nodes slots nf F L) n = 0) : AllOk nodes slots nf F n L :=
  ⟨fun i hi => (lcode_nil (fst_nil h i hi)).1, fun i hi => by have := (lcode_nil (fst_nil h (i + 1) hi)).2.1 (by omega); simpa using this, fun i hi k hk => any_no (lcode_nil (fst_nil h i hi)).2.2 hk⟩
theorem AllOk.less {nodes slots : Int} {nf : Nat} {F : Nat → Fb} {n m : Nat} {L : Nat → Li} (h : AllOk nodes slots nf F n L) (hm : m ≤ n) : AllOk nodes slots nf F m L :=
  ⟨fun i hi => h.ok i (by omega), fun i hi => h.up i (by omega), fun i hi => h.apart i (by omega)⟩
theorem AllOk.ids {nodes slots : Int} {nf : Nat} {F : Nat → Fb} {n : Nat} {L : Nat → Li} (h : AllOk nodes slots nf F n L) : ∀ {j i : Nat}, j < n → i < j → (L i).id < (L j).id
  | 0, i, _, hi => absurd hi (Nat.not_lt_zero _)
  | j + 1, i, hj, hi => by
    have h1 := h.up j (by omega)
    by_cases e : i = j
    · subst e; exact h1
    · exact Int.lt_trans (h.ids (show j < n by omega) (show i < j by omega)) h1
theorem AllOk.id_one {nodes slots : Int} {nf : Nat} {F : Nat → Fb} {n : Nat} {L : Nat → Li} (h : AllOk nodes slots nf F n L) {i j : Nat} (hi : i < n) (hj : j < n) (e : (L i).id = (L j).id) : i = j := by
  by_cases a : i < j
  · have := h.ids hj a; omega
  · by_cases b : j < i
    · have := h.ids hi b; omega
    · omega
/-- Whose slot s of fibre f is, among the first n lights; 0: nobody's. -/
def bk (L : Nat → Li) : Nat → Int → Int → Int
  | 0 => fun _ _ => 0
  | n + 1 => fun f s => if hasS (L n) f s = true then (L n).id else bk L n f s
theorem bk_no {L : Nat → Li} {f s : Int} : ∀ {n : Nat}, (∀ i, i < n → hasS (L i) f s = false) → bk L n f s = 0
  | 0, _ => rfl
  | n + 1, h => by
    show (if hasS (L n) f s = true then (L n).id else bk L n f s) = 0
    rw [h n (by omega), if_neg (by simp), bk_no fun i hi => h i (by omega)]
theorem bk_some {L : Nat → Li} {f s : Int} : ∀ {n : Nat}, bk L n f s ≠ 0 → ∃ i, i < n ∧ hasS (L i) f s = true ∧ bk L n f s = (L i).id
  | 0, h => absurd rfl h
  | n + 1, h => by
    cases e : hasS (L n) f s with
    | true =>
      refine ⟨n, by omega, e, ?_⟩
      show (if hasS (L n) f s = true then (L n).id else bk L n f s) = _
      rw [if_pos e]
    | false =>
      have e2 : bk L (n + 1) f s = bk L n f s := by
        show (if hasS (L n) f s = true then (L n).id else bk L n f s) = _
        rw [if_neg (by simp [e])]
      rw [e2] at h ⊢
      obtain ⟨i, a, b, c⟩ := bk_some h
      exact ⟨i, by omega, b, c⟩
theorem meets_iff {x y : Li} (hx : 1 ≤ x.wd) (hy : 1 ≤ y.wd) : meets x y = true ↔ ∃ f s, hasS x f s = true ∧ hasS y f s = true := by
  unfold meets share
  simp only [Bool.and_eq_true, Bool.not_eq_true', Bool.or_eq_false_iff, decide_eq_false_iff_not, any_iff, has_iff]
  constructor
  · rintro ⟨⟨a, b⟩, k, hk, j, hj, e⟩
    by_cases c : x.fi ≤ y.fi
    · exact ⟨x.p k, y.fi, hasS_iff.2 ⟨⟨k, hk, rfl⟩, by omega, by omega⟩, hasS_iff.2 ⟨⟨j, hj, e⟩, by omega, by omega⟩⟩
    · exact ⟨x.p k, x.fi, hasS_iff.2 ⟨⟨k, hk, rfl⟩, by omega, by omega⟩, hasS_iff.2 ⟨⟨j, hj, e⟩, by omega, by omega⟩⟩
  · rintro ⟨f, s, h1, h2⟩
    obtain ⟨⟨k, hk, e⟩, a, b⟩ := hasS_iff.1 h1
    obtain ⟨⟨j, hj, e'⟩, c, d⟩ := hasS_iff.1 h2
    exact ⟨⟨by omega, by omega⟩, k, hk, j, hj, e'.trans e.symm⟩
/-- A slot belongs to the light that has it. -/
theorem AllOk.bk {nodes slots : Int} {nf : Nat} {F : Nat → Fb} {L : Nat → Li} {f s : Int} : ∀ {n : Nat}, AllOk nodes slots nf F n L → ∀ {i : Nat}, i < n → hasS (L i) f s = true → bk L n f s = (L i).id
  | 0, _, i, hi, _ => absurd hi (Nat.not_lt_zero _)
  | n + 1, h, i, hi, hs => by
    show (if hasS (L n) f s = true then (L n).id else Nt.bk L n f s) = _
    by_cases e : i = n
    · subst e; rw [if_pos hs]
    · have : hasS (L n) f s = false := by
        cases c : hasS (L n) f s with
        | false => rfl
        | true =>
          have h1 := h.apart n (by omega) i (by omega)
          rw [(meets_iff (h.ok n (by omega)).w1 (h.ok i (by omega)).w1).2 ⟨f, s, c, hs⟩] at h1
          cases h1
      rw [if_neg (by simp [this])]
      exact (h.less (by omega)).bk (by omega) hs
theorem AllOk.bk_pos {nodes slots : Int} {nf : Nat} {F : Nat → Fb} {L : Nat → Li} {n : Nat} (h : AllOk nodes slots nf F n L) {f s : Int} : Nt.bk L n f s ≠ 0 ↔ ∃ i, i < n ∧ hasS (L i) f s = true := by
  constructor
  · intro e
    obtain ⟨i, a, b, _⟩ := bk_some e
    exact ⟨i, a, b⟩
  · rintro ⟨i, a, b⟩
    rw [h.bk a b]
    have := (h.ok i a).id1
    omega
/-- Slot t of a light, fibre by fibre. -/
def slF (x : Li) (t : Nat) : Int := x.p (t / x.wd.toNat)
def slS (x : Li) (t : Nat) : Int := x.fi + ((t % x.wd.toNat : Nat) : Int)
theorem sl_has {x : Li} (hw : 1 ≤ x.wd) {t : Nat} (ht : t < x.np * x.wd.toNat) : hasS x (slF x t) (slS x t) = true := by
  have hW : 0 < x.wd.toNat := by omega
  refine hasS_iff.2 ⟨⟨t / x.wd.toNat, ?_, rfl⟩, ?_, ?_⟩
  · exact (Nat.div_lt_iff_lt_mul hW).2 ht
  · unfold slS; omega
  · have := Nat.mod_lt t hW
    unfold slS; omega
theorem sl_of {x : Li} (hw : 1 ≤ x.wd) {f s : Int} (h : hasS x f s = true) : ∃ t, t < x.np * x.wd.toNat ∧ slF x t = f ∧ slS x t = s := by
  obtain ⟨⟨k, hk, e⟩, a, b⟩ := hasS_iff.1 h
  have hW : 0 < x.wd.toNat := by omega
  have hr : (s - x.fi).toNat < x.wd.toNat := by omega
  refine ⟨k * x.wd.toNat + (s - x.fi).toNat, ?_, ?_, ?_⟩
  · have h1 : (k + 1) * x.wd.toNat ≤ x.np * x.wd.toNat := Nat.mul_le_mul_right _ (by omega)
    rw [Nat.add_mul, Nat.one_mul] at h1
    omega
  · unfold slF
    rw [Nat.mul_comm, Nat.mul_add_div hW, Nat.div_eq_of_lt hr, Nat.add_zero, e]
  · unfold slS
    rw [Nat.mul_comm, Nat.mul_add_mod, Nat.mod_eq_of_lt hr]
    omega
/-- The slots of a light that goes no fibre twice are unlike. -/
theorem sl_once {x : Li} (hw : 1 ≤ x.wd) (ho : ∀ i j, i < x.np → j < x.np → x.p i = x.p j → i = j) {t u : Nat} (ht : t < x.np * x.wd.toNat) (hu : u < x.np * x.wd.toNat) (h1 : slF x t = slF x u) (h2 : slS x t = slS x u) : t = u := by
  have hW : 0 < x.wd.toNat := by omega
  have a := ho _ _ ((Nat.div_lt_iff_lt_mul hW).2 ht) ((Nat.div_lt_iff_lt_mul hW).2 hu) h1
  have b : t % x.wd.toNat = u % x.wd.toNat := by unfold slS at h2; omega
  rw [← Nat.div_add_mod t x.wd.toNat, ← Nat.div_add_mod u x.wd.toNat, a, b]
/-- Whose each slot is once so many slots of light x are entered. -/
def ent (B : Int → Int → Int) (x : Li) : Nat → Int → Int → Int
  | 0 => B
  | t + 1 => fun f s => if slF x t = f ∧ slS x t = s then x.id else ent B x t f s
theorem ent_old {B : Int → Int → Int} {x : Li} {f s : Int} : ∀ {t : Nat}, (∀ u, u < t → ¬ (slF x u = f ∧ slS x u = s)) → ent B x t f s = B f s
  | 0, _ => rfl
  | t + 1, h => by
    show (if slF x t = f ∧ slS x t = s then x.id else ent B x t f s) = _
    rw [if_neg (h t (by omega)), ent_old fun u hu => h u (by omega)]
theorem ent_new {B : Int → Int → Int} {x : Li} {f s : Int} : ∀ {t u : Nat}, u < t → slF x u = f ∧ slS x u = s → ent B x t f s = x.id
  | 0, u, hu, _ => absurd hu (Nat.not_lt_zero _)
  | t + 1, u, hu, h => by
    show (if slF x t = f ∧ slS x t = s then x.id else ent B x t f s) = _
    by_cases e : slF x t = f ∧ slS x t = s
    · rw [if_pos e]
    · rw [if_neg e]
      by_cases c : u = t
      · subst c; exact absurd h e
      · exact ent_new (show u < t by omega) h
theorem ent_all {B : Int → Int → Int} {x : Li} (hw : 1 ≤ x.wd) (f s : Int) : ent B x (x.np * x.wd.toNat) f s = if hasS x f s = true then x.id else B f s := by
  by_cases h : hasS x f s = true
  · rw [if_pos h]
    obtain ⟨t, a, b, c⟩ := sl_of hw h
    exact ent_new a ⟨b, c⟩
  · rw [if_neg h]
    refine ent_old fun u hu e => h ?_
    have := sl_has hw hu
    rwa [e.1, e.2] at this
theorem ent_at {B : Int → Int → Int} {x : Li} (hw : 1 ≤ x.wd) (ho : ∀ i j, i < x.np → j < x.np → x.p i = x.p j → i = j) {t : Nat} (ht : t < x.np * x.wd.toNat) : ent B x t (slF x t) (slS x t) = B (slF x t) (slS x t) :=
  ent_old fun u hu e => by have := sl_once hw ho (show u < _ by omega) ht e.1 e.2; omega
theorem LOk.once {nodes slots : Int} {nf : Nat} {F : Nat → Fb} {x : Li} (h : LOk nodes slots nf F x) (i j : Nat) (hi : i < x.np) (hj : j < x.np) (e : x.p i = x.p j) : i = j := way_once (rf_good h.rf).2.1 hi hj e
theorem LOk.fib {nodes slots : Int} {nf : Nat} {F : Nat → Fb} {x : Li} (h : LOk nodes slots nf F x) {i : Nat} (hi : i < x.np) : 0 ≤ x.p i ∧ x.p i < (nf : Int) := isFi_iff.1 (way_step (rf_good h.rf).2.1 hi).1
theorem LOk.one {nodes slots : Int} {nf : Nat} {F : Nat → Fb} {x : Li} (h : LOk nodes slots nf F x) : 0 < x.np := by
  rcases Nat.eq_zero_or_pos x.np with e | e
  · have h1 := h.rf
    rw [e, rf_empty (rf_good h.rf).1] at h1
    omega
  · exact e
theorem LOk.net {nodes slots : Int} {nf : Nat} {F : Nat → Fb} {x : Li} (h : LOk nodes slots nf F x) : Good nodes slots nf F := nf_good (ef_good (rf_good h.rf).1).1
/-- The slot at which light k meets one ahead. -/
theorem meets_at {nodes slots : Int} {nf : Nat} {F : Nat → Fb} {L : Nat → Li} {k : Nat} (h : AllOk nodes slots nf F k L) (hk : LOk nodes slots nf F (L k)) :
    any (fun j => meets (L k) (L j)) k = true ↔ ∃ t, t < (L k).np * (L k).wd.toNat ∧ bk L k (slF (L k) t) (slS (L k) t) ≠ 0 := by
  rw [any_iff]
  constructor
  · rintro ⟨j, hj, e⟩
    obtain ⟨f, s, a, b⟩ := (meets_iff hk.w1 (h.ok j hj).w1).1 e
    obtain ⟨t, c, rfl, rfl⟩ := sl_of hk.w1 a
    exact ⟨t, c, h.bk_pos.2 ⟨j, hj, b⟩⟩
  · rintro ⟨t, ht, e⟩
    obtain ⟨j, hj, b⟩ := h.bk_pos.1 e
    exact ⟨j, hj, (meets_iff hk.w1 (h.ok j hj).w1).2 ⟨_, _, sl_has hk.w1 ht, b⟩⟩
theorem LOk.few {nodes slots : Int} {nf : Nat} {F : Nat → Fb} {x : Li} (h : LOk nodes slots nf F x) : x.np ≤ 8 := by
  have G := h.net
  obtain ⟨a, b, _⟩ := rf_good h.rf
  have e := ends_iff.1 (ef_good a).2
  have hin := nd_in G e.1 e.2.1 b
  have key : ∀ m : Nat, ∀ (g : Nat → Int) (k : Nat), (∀ i, i < k → 0 ≤ g i ∧ g i < (m : Int)) → (∀ i j, i < k → j < k → g i = g j → i = j) → k ≤ m := by
    intro m
    induction m with
    | zero =>
      intro g k h1 _
      rcases Nat.eq_zero_or_pos k with e | e
      · omega
      · have := h1 0 e; omega
    | succ m ih =>
      intro g k h1 h2
      by_cases c : ∃ i, i < k ∧ g i = (m : Int)
      · obtain ⟨i0, hi0, e0⟩ := c
        have := ih (fun i => g (if i < i0 then i else i + 1)) (k - 1) (by
          intro i hi
          by_cases d : i < i0
          · have h3 := h1 i (by omega)
            have h4 : g i ≠ (m : Int) := fun e => by have := h2 i i0 (by omega) hi0 (e.trans e0.symm); omega
            simp only [d, if_true]; omega
          · have h3 := h1 (i + 1) (by omega)
            have h4 : g (i + 1) ≠ (m : Int) := fun e => by have := h2 (i + 1) i0 (by omega) hi0 (e.trans e0.symm); omega
            simp only [d, if_false]; omega) (by
          intro i j hi hj e
          have := h2 _ _ (by split <;> omega) (by split <;> omega) e
          split at this <;> split at this <;> omega)
        omega
      · have := ih g k (fun i hi => by have := h1 i hi; have : g i ≠ (m : Int) := fun e => c ⟨i, hi, e⟩; omega) h2
        omega
  have := key 8 (fun i => nd F x.p x.fr i) (x.np + 1) (fun i hi => by have := hin i (by omega); have := G.n8; omega) (fun i j hi hj e => nd_unlike b (by omega) (by omega) e)
  omega
end Go.Proofs.Ytfpklfpcencimaa.Nt
