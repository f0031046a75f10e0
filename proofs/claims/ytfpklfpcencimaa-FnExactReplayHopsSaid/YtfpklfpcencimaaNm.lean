/- Nets, routes, lights and whose each slot is, plainly: no program. -/
import Derived.Handy
namespace Go.Proofs.Ytfpklfpcencimaa.Nt
/-- A generic 'one of the first k'. -/
def any (q : Nat → Bool) : Nat → Bool
  | 0 => false
  | k + 1 => any q k || q k
theorem any_iff {q : Nat → Bool} : ∀ {n : Nat}, any q n = true ↔ ∃ k, k < n ∧ q k = true
  | 0 => by simp [any]
  | n + 1 => by
    unfold any
    rw [Bool.or_eq_true, any_iff]
    constructor
    · rintro (⟨k, h, e⟩ | h)
      · exact ⟨k, by omega, e⟩
      · exact ⟨n, by omega, h⟩
    · rintro ⟨k, h, e⟩
      by_cases c : k = n
      · exact Or.inr (c ▸ e)
      · exact Or.inl ⟨k, by omega, e⟩
theorem any_hit {q : Nat → Bool} {n k : Nat} (hk : k < n) (h : q k = true) : any q n = true := any_iff.2 ⟨k, hk, h⟩
theorem any_no {q : Nat → Bool} {n : Nat} (h : any q n = false) {k : Nat} (hk : k < n) : q k = false := by
  cases e : q k with
  | false => rfl
  | true => rw [any_hit hk e] at h; cases h
theorem any_next {q : Nat → Bool} {n : Nat} (h : any q n = false) (h2 : q n = false) : any q (n + 1) = false := by
  unfold any; rw [h, h2]; rfl
theorem any_false {q : Nat → Bool} {n : Nat} (h : ∀ k, k < n → q k = false) : any q n = false := by
  cases e : any q n with
  | false => rfl
  | true =>
    obtain ⟨k, h1, h2⟩ := any_iff.1 e
    rw [h k h1] at h2; cases h2
theorem any_congr {q r : Nat → Bool} {n : Nat} (h : ∀ k, k < n → q k = r k) : any q n = any r n := by
  rw [Bool.eq_iff_iff, any_iff, any_iff]
  constructor
  · rintro ⟨k, a, b⟩; exact ⟨k, a, by rw [← h k a]; exact b⟩
  · rintro ⟨k, a, b⟩; exact ⟨k, a, by rw [h k a]; exact b⟩
/-- The first code that is not 0, of so many. -/
def fst (c : Nat → Int) : Nat → Int
  | 0 => 0
  | k + 1 => if fst c k = 0 then c k else fst c k
theorem fst_next {c : Nat → Int} {k : Nat} (h : fst c k = 0) (h2 : c k = 0) : fst c (k + 1) = 0 := by
  unfold fst; rw [if_pos h, h2]
theorem fst_stop {c : Nat → Int} {k : Nat} (h : fst c k = 0) (h2 : c k ≠ 0) : ∀ {n : Nat}, k < n → fst c n = c k
  | 0, hk => absurd hk (Nat.not_lt_zero _)
  | n + 1, hk => by
    unfold fst
    by_cases e : k = n
    · subst e; rw [if_pos h]
    · rw [fst_stop h h2 (show k < n by omega), if_neg h2]
theorem fst_nil {c : Nat → Int} : ∀ {n : Nat}, fst c n = 0 → ∀ k, k < n → c k = 0
  | 0, _, k, hk => absurd hk (Nat.not_lt_zero _)
  | n + 1, h, k, hk => by
    unfold fst at h
    by_cases z : fst c n = 0
    · rw [if_pos z] at h
      by_cases e : k = n
      · subst e; exact h
      · exact fst_nil z k (by omega)
    · rw [if_neg z] at h; exact absurd h z
theorem fst_pre {c : Nat → Int} {n : Nat} (h : fst c n = 0) : ∀ k, k ≤ n → fst c k = 0
  | 0, _ => rfl
  | k + 1, hk => fst_next (fst_pre h k (by omega)) (fst_nil h k (by omega))
theorem fst_mem {c : Nat → Int} : ∀ {n : Nat}, fst c n ≠ 0 → ∃ k, k < n ∧ fst c k = 0 ∧ c k = fst c n
  | 0, h => absurd rfl h
  | n + 1, h => by
    by_cases z : fst c n = 0
    · have e : fst c (n + 1) = c n := by show (if fst c n = 0 then c n else fst c n) = _; rw [if_pos z]
      exact ⟨n, by omega, z, e.symm⟩
    · have e : fst c (n + 1) = fst c n := by show (if fst c n = 0 then c n else fst c n) = _; rw [if_neg z]
      obtain ⟨k, a, b, d⟩ := fst_mem z
      exact ⟨k, by omega, b, d.trans e.symm⟩
structure Fb where
  a : Int
  b : Int
  km : Int
def nilF : Fb := ⟨0, 0, 0⟩
def isN (nodes v : Int) : Bool := decide (0 ≤ v) && decide (v < nodes)
def okF (nodes : Int) (f : Fb) : Bool := isN nodes f.a && isN nodes f.b && decide (f.a < f.b) && decide (1 ≤ f.km) && decide (f.km ≤ 100000)
def joins (f g : Fb) : Bool := (f.a == g.a) && (f.b == g.b)
/-- Fibre i is wrong. -/
def badF (nodes : Int) (F : Nat → Fb) (i : Nat) : Bool := !okF nodes (F i) || any (fun k => joins (F k) (F i)) i
def nfault (nodes slots : Int) (nf : Nat) (F : Nat → Fb) : Int :=
  if 8 < nodes ∨ 14 < (nf : Int) then 2 else if nodes < 1 ∨ slots < 1 ∨ 64 < slots ∨ any (badF nodes F) nf = true then 1 else 0
structure Good (nodes slots : Int) (nf : Nat) (F : Nat → Fb) : Prop where
  n1 : 1 ≤ nodes
  n8 : nodes ≤ 8
  s1 : 1 ≤ slots
  s64 : slots ≤ 64
  f14 : nf ≤ 14
  ok : ∀ i, i < nf → okF nodes (F i) = true
theorem nf_two {nodes slots : Int} {nf : Nat} {F : Nat → Fb} (h : 8 < nodes ∨ 14 < (nf : Int)) : nfault nodes slots nf F = 2 := by unfold nfault; rw [if_pos h]
theorem nf_one {nodes slots : Int} {nf : Nat} {F : Nat → Fb} (h : nodes ≤ 8) (h' : (nf : Int) ≤ 14) (k : nodes < 1 ∨ slots < 1 ∨ 64 < slots ∨ any (badF nodes F) nf = true) : nfault nodes slots nf F = 1 := by
  unfold nfault; rw [if_neg (by omega), if_pos k]
theorem nf_nil {nodes slots : Int} {nf : Nat} {F : Nat → Fb} (h : nodes ≤ 8) (h' : (nf : Int) ≤ 14) (k1 : 1 ≤ nodes) (k2 : 1 ≤ slots) (k3 : slots ≤ 64) (k : any (badF nodes F) nf = false) : nfault nodes slots nf F = 0 := by
  unfold nfault; rw [if_neg (by omega), if_neg (by rw [k]; simp; omega)]
theorem nf_good {nodes slots : Int} {nf : Nat} {F : Nat → Fb} (h : nfault nodes slots nf F = 0) : Good nodes slots nf F := by
  unfold nfault at h
  split at h
  · omega
  · split at h
    · omega
    · rename_i a b
      have hb : any (badF nodes F) nf = false := by
        cases e : any (badF nodes F) nf with
        | false => rfl
        | true => exact absurd (Or.inr (Or.inr (Or.inr e))) b
      refine ⟨by omega, by omega, by omega, by omega, by omega, fun i hi => ?_⟩
      have := any_no hb hi
      unfold badF at this
      cases e : okF nodes (F i) with
      | true => rfl
      | false => rw [e] at this; simp at this
theorem nf_cases (nodes slots : Int) (nf : Nat) (F : Nat → Fb) : nfault nodes slots nf F = 0 ∨ nfault nodes slots nf F = 1 ∨ nfault nodes slots nf F = 2 := by
  unfold nfault
  by_cases a : 8 < nodes ∨ 14 < (nf : Int)
  · rw [if_pos a]; simp
  · rw [if_neg a]
    by_cases b : nodes < 1 ∨ slots < 1 ∨ 64 < slots ∨ any (badF nodes F) nf = true
    · rw [if_pos b]; simp
    · rw [if_neg b]; simp
theorem okF_all {nodes : Int} {f : Fb} (h : okF nodes f = true) : 0 ≤ f.a ∧ f.a < nodes ∧ 0 ≤ f.b ∧ f.b < nodes ∧ f.a < f.b ∧ 1 ≤ f.km ∧ f.km ≤ 100000 := by
  unfold okF isN at h
  simp only [Bool.and_eq_true, decide_eq_true_eq] at h
  omega
theorem okF_no {nodes : Int} {f : Fb} (h : ¬ (0 ≤ f.a ∧ f.a < nodes ∧ 0 ≤ f.b ∧ f.b < nodes ∧ f.a < f.b ∧ 1 ≤ f.km ∧ f.km ≤ 100000)) : okF nodes f = false := by
  cases e : okF nodes f with
  | false => rfl
  | true => exact absurd (okF_all e) h
theorem okF_yes {nodes : Int} {f : Fb} (h : 0 ≤ f.a ∧ f.a < nodes ∧ 0 ≤ f.b ∧ f.b < nodes ∧ f.a < f.b ∧ 1 ≤ f.km ∧ f.km ≤ 100000) : okF nodes f = true := by
  unfold okF isN
  simp only [Bool.and_eq_true, decide_eq_true_eq]
  omega
/-- The other end of a fibre. -/
def oth (f : Fb) (v : Int) : Int := if f.a = v then f.b else if f.b = v then f.a else -1
theorem oth_cases (f : Fb) (v : Int) : (f.a = v ∧ oth f v = f.b) ∨ (f.b = v ∧ f.a ≠ v ∧ oth f v = f.a) ∨ (f.a ≠ v ∧ f.b ≠ v ∧ oth f v = -1) := by
  unfold oth
  by_cases h : f.a = v
  · exact Or.inl ⟨h, by rw [if_pos h]⟩
  · by_cases k : f.b = v
    · exact Or.inr (Or.inl ⟨k, h, by rw [if_neg h, if_pos k]⟩)
    · exact Or.inr (Or.inr ⟨h, k, by rw [if_neg h, if_neg k]⟩)
def isFi (nf : Nat) (k : Int) : Bool := decide (0 ≤ k) && decide (k < (nf : Int))
theorem isFi_iff {nf : Nat} {k : Int} : isFi nf k = true ↔ 0 ≤ k ∧ k < (nf : Int) := by unfold isFi; simp
theorem isFi_no {nf : Nat} {k : Int} (h : ¬ (0 ≤ k ∧ k < (nf : Int))) : isFi nf k = false := by
  cases e : isFi nf k with
  | false => rfl
  | true => exact absurd (isFi_iff.1 e) h
/-- The node that is reached behind so many fibres. -/
def nd (F : Nat → Fb) (p : Nat → Int) (fr : Int) : Nat → Int
  | 0 => fr
  | i + 1 => oth (F (p i).toNat) (nd F p fr i)
def been (F : Nat → Fb) (p : Nat → Int) (fr : Int) (v : Int) (k : Nat) : Bool := any (fun j => nd F p fr j == v) k
def stp (nf : Nat) (F : Nat → Fb) (p : Nat → Int) (fr : Int) (i : Nat) : Int :=
  if isFi nf (p i) = false then 3 else if nd F p fr (i + 1) < 0 ∨ been F p fr (nd F p fr (i + 1)) (i + 1) = true then 1 else 0
def way (nf : Nat) (F : Nat → Fb) (p : Nat → Int) (fr : Int) (n : Nat) : Int := fst (stp nf F p fr) n
def wend (nf : Nat) (F : Nat → Fb) (fr to : Int) (np : Nat) (p : Nat → Int) : Int :=
  if way nf F p fr np = 0 then (if nd F p fr np = to then 0 else 1) else way nf F p fr np
def ends (nodes fr to : Int) : Bool := isN nodes fr && isN nodes to && (fr != to)
def efault (nodes slots : Int) (nf : Nat) (F : Nat → Fb) (fr to : Int) : Int :=
  if nfault nodes slots nf F = 0 then (if ends nodes fr to = true then 0 else 1) else nfault nodes slots nf F
def rfault (nodes slots : Int) (nf : Nat) (F : Nat → Fb) (fr to : Int) (np : Nat) (p : Nat → Int) : Int :=
  if efault nodes slots nf F fr to = 0 then wend nf F fr to np p else efault nodes slots nf F fr to
theorem ends_iff {nodes fr to : Int} : ends nodes fr to = true ↔ 0 ≤ fr ∧ fr < nodes ∧ 0 ≤ to ∧ to < nodes ∧ fr ≠ to := by
  unfold ends isN
  simp only [Bool.and_eq_true, decide_eq_true_eq, bne_iff_ne, ne_eq]
  constructor <;> (rintro h; obtain ⟨h1, h2⟩ := h; omega)
theorem ends_no {nodes fr to : Int} (h : ¬ (0 ≤ fr ∧ fr < nodes ∧ 0 ≤ to ∧ to < nodes ∧ fr ≠ to)) : ends nodes fr to = false := by
  cases e : ends nodes fr to with
  | false => rfl
  | true => exact absurd (ends_iff.1 e) h
theorem ef_net {nodes slots : Int} {nf : Nat} {F : Nat → Fb} {fr to : Int} (h : nfault nodes slots nf F ≠ 0) : efault nodes slots nf F fr to = nfault nodes slots nf F := by unfold efault; rw [if_neg h]
theorem ef_one {nodes slots : Int} {nf : Nat} {F : Nat → Fb} {fr to : Int} (h : nfault nodes slots nf F = 0) (k : ends nodes fr to = false) : efault nodes slots nf F fr to = 1 := by unfold efault; rw [if_pos h, k]; simp
theorem ef_nil {nodes slots : Int} {nf : Nat} {F : Nat → Fb} {fr to : Int} (h : nfault nodes slots nf F = 0) (k : ends nodes fr to = true) : efault nodes slots nf F fr to = 0 := by unfold efault; rw [if_pos h, k]; simp
theorem ef_good {nodes slots : Int} {nf : Nat} {F : Nat → Fb} {fr to : Int} (h : efault nodes slots nf F fr to = 0) : nfault nodes slots nf F = 0 ∧ ends nodes fr to = true := by
  unfold efault at h
  by_cases z : nfault nodes slots nf F = 0
  · rw [if_pos z] at h
    cases e : ends nodes fr to with
    | true => exact ⟨z, rfl⟩
    | false => rw [e] at h; simp at h
  · rw [if_neg z] at h; exact absurd h z
theorem rf_ends {nodes slots : Int} {nf : Nat} {F : Nat → Fb} {fr to : Int} {np : Nat} {p : Nat → Int} (h : efault nodes slots nf F fr to ≠ 0) : rfault nodes slots nf F fr to np p = efault nodes slots nf F fr to := by unfold rfault; rw [if_neg h]
theorem rf_way {nodes slots : Int} {nf : Nat} {F : Nat → Fb} {fr to : Int} {np : Nat} {p : Nat → Int} (h : efault nodes slots nf F fr to = 0) : rfault nodes slots nf F fr to np p = wend nf F fr to np p := by unfold rfault; rw [if_pos h]
theorem rf_empty {nodes slots : Int} {nf : Nat} {F : Nat → Fb} {fr to : Int} {p : Nat → Int} (h : efault nodes slots nf F fr to = 0) : rfault nodes slots nf F fr to 0 p = 1 := by
  rw [rf_way h]
  have := ends_iff.1 (ef_good h).2
  show (if (0 : Int) = 0 then (if fr = to then (0 : Int) else 1) else 0) = 1
  rw [if_pos rfl, if_neg this.2.2.2.2]
theorem rf_good {nodes slots : Int} {nf : Nat} {F : Nat → Fb} {fr to : Int} {np : Nat} {p : Nat → Int} (h : rfault nodes slots nf F fr to np p = 0) : efault nodes slots nf F fr to = 0 ∧ way nf F p fr np = 0 ∧ nd F p fr np = to := by
  unfold rfault at h
  by_cases z : efault nodes slots nf F fr to = 0
  · rw [if_pos z] at h
    unfold wend at h
    by_cases y : way nf F p fr np = 0
    · rw [if_pos y] at h
      by_cases x : nd F p fr np = to
      · exact ⟨z, y, x⟩
      · rw [if_neg x] at h; omega
    · rw [if_neg y] at h; exact absurd h y
  · rw [if_neg z] at h; exact absurd h z
/-- What a way without fault tells of its steps. -/
theorem stp_nil {nf : Nat} {F : Nat → Fb} {p : Nat → Int} {fr : Int} {i : Nat} (h : stp nf F p fr i = 0) : isFi nf (p i) = true ∧ 0 ≤ nd F p fr (i + 1) ∧ ∀ j, j ≤ i → nd F p fr j ≠ nd F p fr (i + 1) := by
  unfold stp at h
  split at h
  · omega
  · rename_i a
    split at h
    · omega
    · rename_i b
      refine ⟨by simpa using a, by omega, fun j hj e => b (Or.inr ?_)⟩
      exact any_hit (show j < i + 1 by omega) (by simpa using e)
theorem way_step {nf : Nat} {F : Nat → Fb} {p : Nat → Int} {fr : Int} {n : Nat} (h : way nf F p fr n = 0) {i : Nat} (hi : i < n) : isFi nf (p i) = true ∧ 0 ≤ nd F p fr (i + 1) ∧ ∀ j, j ≤ i → nd F p fr j ≠ nd F p fr (i + 1) := stp_nil (fst_nil h i hi)
/-- All nodes on a way without fault are nodes. -/
theorem nd_in {nodes slots : Int} {nf : Nat} {F : Nat → Fb} {p : Nat → Int} {fr : Int} (G : Good nodes slots nf F) (h0 : 0 ≤ fr) (h1 : fr < nodes) {n : Nat} (h : way nf F p fr n = 0) : ∀ i, i ≤ n → 0 ≤ nd F p fr i ∧ nd F p fr i < nodes
  | 0, _ => ⟨h0, h1⟩
  | i + 1, hi => by
    obtain ⟨a, b, _⟩ := way_step h (show i < n by omega)
    refine ⟨b, ?_⟩
    have hf := isFi_iff.1 a
    have hk := okF_all (G.ok (p i).toNat (by omega))
    have b' : 0 ≤ oth (F (p i).toNat) (nd F p fr i) := b
    show oth (F (p i).toNat) (nd F p fr i) < nodes
    rcases oth_cases (F (p i).toNat) (nd F p fr i) with ⟨_, e⟩ | ⟨_, _, e⟩ | ⟨_, _, e⟩ <;> rw [e] at b' ⊢ <;> omega
theorem nd_unlike {nf : Nat} {F : Nat → Fb} {p : Nat → Int} {fr : Int} {n : Nat} (h : way nf F p fr n = 0) {i j : Nat} (hi : i ≤ n) (hj : j ≤ n) (e : nd F p fr i = nd F p fr j) : i = j := by
  by_cases c : i < j
  · obtain ⟨j', rfl⟩ : ∃ j', j = j' + 1 := ⟨j - 1, by omega⟩
    exact absurd e ((way_step h (show j' < n by omega)).2.2 i (by omega))
  · by_cases d : j < i
    · obtain ⟨i', rfl⟩ : ∃ i', i = i' + 1 := ⟨i - 1, by omega⟩
      exact absurd e.symm ((way_step h (show i' < n by omega)).2.2 j (by omega))
    · omega
/-- No fibre is twice on a way without fault. -/
theorem way_once {nf : Nat} {F : Nat → Fb} {p : Nat → Int} {fr : Int} {n : Nat} (h : way nf F p fr n = 0) {i j : Nat} (hi : i < n) (hj : j < n) (e : p i = p j) : i = j := by
  obtain ⟨_, bi, _⟩ := way_step h hi
  obtain ⟨_, bj, _⟩ := way_step h hj
  have ei : nd F p fr (i + 1) = oth (F (p j).toNat) (nd F p fr i) := by rw [← e]; rfl
  have ej : nd F p fr (j + 1) = oth (F (p j).toNat) (nd F p fr j) := rfl
  generalize F (p j).toNat = f at ei ej
  rcases oth_cases f (nd F p fr i) with ⟨a1, a2⟩ | ⟨a1, _, a2⟩ | ⟨_, _, a2⟩
  · rcases oth_cases f (nd F p fr j) with ⟨c1, c2⟩ | ⟨c1, _, c2⟩ | ⟨_, _, c2⟩
    · exact nd_unlike h (by omega) (by omega) (a1.symm.trans c1)
    · have x : nd F p fr (i + 1) = nd F p fr j := by rw [ei, a2, c1]
      have y : nd F p fr (j + 1) = nd F p fr i := by rw [ej, c2, a1]
      have := nd_unlike h (by omega) (by omega) x
      have := nd_unlike h (by omega) (by omega) y
      omega
    · rw [ej, c2] at bj; omega
  · rcases oth_cases f (nd F p fr j) with ⟨c1, c2⟩ | ⟨c1, _, c2⟩ | ⟨_, _, c2⟩
    · have x : nd F p fr (i + 1) = nd F p fr j := by rw [ei, a2, c1]
      have y : nd F p fr (j + 1) = nd F p fr i := by rw [ej, c2, a1]
      have := nd_unlike h (by omega) (by omega) x
      have := nd_unlike h (by omega) (by omega) y
      omega
    · exact nd_unlike h (by omega) (by omega) (a1.symm.trans c1)
    · rw [ej, c2] at bj; omega
  · rw [ei, a2] at bi; omega
/-- A way without fault has no more fibres than nodes behind the first. -/
def allF (nf : Nat) (p : Nat → Int) (n : Nat) : Bool := !any (fun i => !isFi nf (p i)) n
theorem allF_iff {nf : Nat} {p : Nat → Int} {n : Nat} : allF nf p n = true ↔ ∀ i, i < n → 0 ≤ p i ∧ p i < (nf : Int) := by
  unfold allF
  constructor
  · intro h i hi
    have h' : any (fun i => !isFi nf (p i)) n = false := by simpa using h
    have := any_no h' hi
    exact isFi_iff.1 (by simpa using this)
  · intro h
    rw [any_false fun k hk => by simpa using isFi_iff.2 (h k hk)]; rfl
def kms (F : Nat → Fb) (p : Nat → Int) : Nat → Int
  | 0 => 0
  | i + 1 => kms F p i + (F (p i).toNat).km
theorem kms_bound {nodes slots : Int} {nf : Nat} {F : Nat → Fb} {p : Nat → Int} (G : Good nodes slots nf F) : ∀ {n : Nat}, (∀ i, i < n → 0 ≤ p i ∧ p i < (nf : Int)) → 0 ≤ kms F p n ∧ kms F p n ≤ 100000 * n
  | 0, _ => by simp [kms]
  | n + 1, h => by
    have h1 := kms_bound G (n := n) fun i hi => h i (by omega)
    have h2 := h n (by omega)
    have h3 := okF_all (G.ok (p n).toNat (by omega))
    unfold kms
    omega
def rkm (nodes slots : Int) (nf : Nat) (F : Nat → Fb) (np : Nat) (p : Nat → Int) : Int :=
  if nfault nodes slots nf F = 0 ∧ allF nf p np = true then kms F p np else 0
end Go.Proofs.Ytfpklfpcencimaa.Nt
