/- Lists of lights that are copied, and a light of them that is slid. -/
import Derived.Test.YtinfbbbgfkaioaaLr
import Derived.Test.YtinfbbbgfkaioaaCl
import Derived.Test.YtinfbbbgfkaioaaNy
namespace Go.Proofs.Ytinfbbbgfkaioaa
open Go.RowKit
set_option linter.unusedVariables false
set_option linter.unusedSimpArgs false
/-- The lights, one of them with another first slot. -/
def slid (L : Nat → Li) (k : Nat) (t : Int) (i : Nat) : Li := if i = k then { L i with fi := t } else L i
/-- A list of lights in memory of its own: block g and a block for each path, all from B on. -/
def Cpy (B : Nat) (w : World) (g n : Nat) (PB PC : Nat → Nat) (L : Nat → Li) : Prop :=
  B ≤ g ∧ SegV w g 80 n 6 (fun i j => lcell (L i) (.slice (some ⟨PB i, 0, none⟩) (L i).np (PC i)) j) ∧ ∀ i, i < n → B ≤ PB i ∧ Seg w (PB i) 2 0 (L i).np (fun k => .int .i64 ((L i).p k))
namespace Cpy
variable {B : Nat} {w w' : World} {g n cap : Nat} {PB PC : Nat → Nat} {L : Nat → Li}
theorem rd (h : Cpy B w g n PB PC L) : RdL w (.slice (some ⟨g, 0, none⟩) n cap) n L :=
  ⟨fun i => .slice (some ⟨PB i, 0, none⟩) (L i).np (PC i), h.2.1.rd, fun i hi => (h.2.2 i hi).2.rd⟩
theorem later (h : Cpy B w g n PB PC L) (hb : Below w.heap.size w w') : Cpy B w' g n PB PC L :=
  ⟨h.1, h.2.1.below hb, fun i hi => ⟨(h.2.2 i hi).1, (h.2.2 i hi).2.of_block (hb.block _ (h.2.2 i hi).2.lt)⟩⟩
theorem keep (h : Cpy B w g n PB PC L) (hk : ∀ k, B ≤ k → w'.heap[k]? = w.heap[k]?) : Cpy B w' g n PB PC L :=
  ⟨h.1, h.2.1.of_block (hk _ h.1), fun i hi => ⟨(h.2.2 i hi).1, (h.2.2 i hi).2.of_block (hk _ (h.2.2 i hi).1)⟩⟩
theorem cell (h : Cpy B w g n PB PC L) {i j : Nat} (hi : i < n) (hj : j < 6) : w.cell? ⟨g, i * 6 + j, none⟩ = some (lcell (L i) (.slice (some ⟨PB i, 0, none⟩) (L i).np (PC i)) j) := h.2.1.cell hi hj
theorem slide (h : Cpy B w g n PB PC L) {k : Nat} (hk : k < n) (t : Int) : Cpy B (w.setCell ⟨g, k * 6 + 4, none⟩ (.int .i64 t)) g n PB PC (slid L k t) := by
  obtain ⟨h1, h2, h3⟩ := h
  refine ⟨h1, SegV.congr (SegV.set h2 hk (show 4 < 6 by omega) (.int .i64 t)) fun i hi j hj => ?_, fun i hi => ?_⟩
  · by_cases e : i = k
    · subst e
      unfold slid
      rw [if_pos rfl]
      match j, hj with
      | 0, _ => simp [lcell]
      | 1, _ => simp [lcell]
      | 2, _ => simp [lcell]
      | 3, _ => simp [lcell]
      | 4, _ => simp [lcell]
      | 5, _ => simp [lcell]
    · unfold slid
      rw [if_neg (fun a => e a.1), if_neg e]
  · have hne : PB i ≠ g := by
      obtain ⟨c, hc, _⟩ := (h3 i hi).2
      obtain ⟨c', hc', _⟩ := h2
      intro e
      rw [e, hc'] at hc
      simp at hc
    have e1 : (slid L k t i).np = (L i).np := by unfold slid; split <;> rfl
    have e2 : (slid L k t i).p = (L i).p := by unfold slid; split <;> rfl
    rw [e1, e2]
    exact ⟨(h3 i hi).1, (h3 i hi).2.of_block (Below.heap_setCell _ _ _ _ hne)⟩
end Cpy
theorem OwLs.cpy {lo hi : Nat} {w : World} {g n : Nat} {L : Nat → Li} (h : OwLs lo hi w g n L) : ∃ PB PC, Cpy lo w g n PB PC L ∧ g < hi ∧ (∀ i, i < n → PB i < hi) ∧ ∀ i j, i < n → j < n → PB i = PB j → i = j := by
  obtain ⟨PB, PC, h1, h2, h3, h4, h5⟩ := h
  exact ⟨PB, PC, ⟨h1, h3, fun i hi => ⟨(h4 i hi).1, (h4 i hi).2.2⟩⟩, h2, fun i hi => (h4 i hi).2.1, h5⟩
theorem Cpy.own {lo hi : Nat} {w : World} {g n : Nat} {PB PC : Nat → Nat} {L : Nat → Li} (h : Cpy lo w g n PB PC L) (hg : g < hi) (hp : ∀ i, i < n → PB i < hi) (ha : ∀ i j, i < n → j < n → PB i = PB j → i = j) : OwLs lo hi w g n L :=
  ⟨PB, PC, h.1, hg, h.2.1, fun i hi => ⟨(h.2.2 i hi).1, hp i hi, (h.2.2 i hi).2⟩, ha⟩
theorem Cpy.keep2 {B hi : Nat} {w w' : World} {g n : Nat} {PB PC : Nat → Nat} {L : Nat → Li} (h : Cpy B w g n PB PC L) (hg : g < hi) (hp : ∀ i, i < n → PB i < hi) (hk : Keep B hi w w') : Cpy B w' g n PB PC L :=
  ⟨h.1, h.2.1.of_block (hk _ h.1 hg), fun i hi => ⟨(h.2.2 i hi).1, (h.2.2 i hi).2.of_block (hk _ (h.2.2 i hi).1 (hp i hi))⟩⟩
/-- A code and lights in memory of their own, from lo on, below hi. -/
def OutB (lo hi : Nat) (w : World) (c : Int) (v : Value) (n : Nat) (L : Nat → Li) : Prop := (c ≠ 0 ∧ v = .slice none 0 0) ∨ (c = 0 ∧ ∃ g cap PB PC, v = .slice (some ⟨g, 0, none⟩) n cap ∧ Cpy lo w g n PB PC L ∧ g < hi ∧ ∀ i, i < n → PB i < hi)
theorem OutB.keep {lo hi : Nat} {w w' : World} {c : Int} {v : Value} {n : Nat} {L : Nat → Li} (h : OutB lo hi w c v n L) (hk : Keep lo hi w w') : OutB lo hi w' c v n L := by
  rcases h with h | ⟨h, g, cap, PB, PC, e, h1, h2, h3⟩
  · exact Or.inl h
  · exact Or.inr ⟨h, g, cap, PB, PC, e, h1.keep2 h2 h3 hk, h2, h3⟩
theorem OutB.rd {lo hi : Nat} {w : World} {c : Int} {v : Value} {n : Nat} {L : Nat → Li} (h : OutB lo hi w c v n L) : OutQ w c v n L := by
  rcases h with h | ⟨h, g, cap, PB, PC, rfl, h1, h2, h3⟩
  · exact Or.inl h
  · exact Or.inr ⟨h, h1.rd⟩
/-- The rows of a list of lights; QB: the paths' blocks. -/
def lfa (L : Nat → Li) (QB QC : Nat → Nat) (a : Nat) : List Value := lrow (L a) (.slice (some ⟨QB a, 0, none⟩) (L a).np (QC a))
theorem flat_alike {F G : Nat → List Value} : ∀ {n : Nat}, (∀ a, a < n → F a = G a) → flat F n = flat G n
  | 0, _ => rfl
  | n + 1, h => by rw [flat_succ, flat_succ, flat_alike fun a ha => h a (by omega), h n (by omega)]
theorem ownsV_off {w : World} {base n m : Nat} {t t' : TypeId} {v : Value} {xs : List Value} (h : w.ownsRow base t m v n xs) {b off k : Nat} {f : Nat → Value} (hs : Seg w b t' off k f) (ht : t ≠ t') : ∀ g, v.ownBlock = some g → g ≠ b := by
  intro g hg e
  subst e
  obtain ⟨c, hb, _⟩ := hs
  obtain ⟨_, ⟨rfl, _⟩ | ⟨g', cap, cur, rfl, _, hh, _⟩⟩ := h
  · simp [Value.ownBlock] at hg
  · simp [Value.ownBlock] at hg
    subst hg
    rw [hh] at hb
    simp at hb
    exact ht hb.2
set_option maxRecDepth 20000 in
set_option maxHeartbeats 3200000 in
theorem sCpy_any {w : World} {ao : Option Addr} {n cap : Nat} {L : Nat → Li} (h : RdL w (.slice ao n cap) n L) (hf : LFew n L) (h1 : ∀ i, i < n → 0 < (L i).np) :
    Calls Try.prog 70 #[.slice ao n cap] w fun e w' => ∃ g c PB PC, e = .returned (.slice (some ⟨g, 0, none⟩) n c) ∧ Cpy w.heap.size w' g n PB PC L ∧ Below w.heap.size w w' := by
  have H : ∀ W, Below w.heap.size w W → Hid (RdL W (.slice ao n cap) n L) := fun W hb => h.later hb
  have HF : Hid (LFew n L ∧ (∀ i, i < n → 0 < (L i).np)) := ⟨hf, h1⟩
  have hnI : (n : Int) ≤ 1048576 := by have := hf.cn; omega
  clear h hf h1
  obtain ⟨Y, hY⟩ : ∃ Y, Y = w.alloc (.cells #[] 80) := ⟨_, rfl⟩
  have HY : Hid (Y.ownsRow w.heap.size 80 6 (.slice (some ⟨w.heap.size, 0, none⟩) 0 0) 0 [] ∧ Below w.heap.size w Y) := by rw [hY]; exact ⟨ownsV_empty w 80 6, (Below.refl _ _).alloc (Nat.le_refl _) _⟩
  go_enter Try.func70, Try.ntmps70
  go_wp2_with fail
  rw [← hY]
  clear hY
  go_loopw [3, 4] (fun s5 s6 wr => ∃ (k : Nat) (v : Value) (QB QC : Nat → Nat), k ≤ n ∧ s5 = v ∧ s6 = .int .i64 k ∧ Hid (wr.ownsRow w.heap.size 80 6 v k (flat (lfa L QB QC) k) ∧ v ≠ .slice none 0 0 ∧ (∀ a, a < k → w.heap.size ≤ QB a ∧ Seg wr (QB a) 2 0 (L a).np (fun k => .int .i64 ((L a).p k))) ∧ Below w.heap.size w wr)) (fun _ s6 _ => n - (intOf s6).toNat)
  case atStart => exact ⟨0, _, fun _ => 0, fun _ => 0, Nat.zero_le _, rfl, rfl, HY.out.1, by simp, fun a ha => absurd ha (Nat.not_lt_zero _), HY.out.2⟩
  case round =>
    obtain ⟨k, v, QB, QC, hk, rfl, rfl, HR⟩ := hrel
    by_cases hkn : k < n
    · obtain ⟨bb, off, po, pc, rfl, hc, hp⟩ := (H wr HR.out.2.2.2).out.at hkn
      obtain ⟨x, hx⟩ : ∃ x, x = L k := ⟨_, rfl⟩
      obtain ⟨m, hm⟩ : ∃ m, m = (L k).np := ⟨_, rfl⟩
      have hm0 : 0 < m := by rw [hm]; exact HF.out.2 k hkn
      have hm1 : m ≤ 1048576 := by rw [hm]; exact HF.out.1.each hkn
      rw [← hm, ← hx] at hc hp
      have c0 : wr.cell? ⟨bb, off + k * 6, none⟩ = some (.int .i64 x.id) := hc 0 (by omega)
      have c1 : wr.cell? ⟨bb, off + k * 6 + 1, none⟩ = some (.int .i64 x.fr) := hc 1 (by omega)
      have c2 : wr.cell? ⟨bb, off + k * 6 + 2, none⟩ = some (.int .i64 x.tt) := hc 2 (by omega)
      have c3 : wr.cell? ⟨bb, off + k * 6 + 3, none⟩ = some (.slice po m pc) := hc 3 (by omega)
      have c4 : wr.cell? ⟨bb, off + k * 6 + 4, none⟩ = some (.int .i64 x.fi) := hc 4 (by omega)
      have c5 : wr.cell? ⟨bb, off + k * 6 + 5, none⟩ = some (.int .i64 x.wd) := hc 5 (by omega)
      have HP : Hid (RdRow wr (.slice po m pc) m x.p) := hp
      have HX : Hid (x = L k ∧ m = (L k).np) := ⟨hx, hm⟩
      have hkI : (k : Int) < n := by omega
      clear hc hp hx hm H
      go_wp2_with fail
      refine (sCopy_any x HP.out hm0 hm1).mono ?_
      rintro e w2 ⟨gp, cp, rfl, hg2, hs2, hb2⟩
      have hcI : k ≤ 1000000000 := by omega
      have H2 : Hid (w2.ownsRow w.heap.size 80 6 u3 k (flat (lfa L QB QC) k) ∧ (∀ a, a < k → w.heap.size ≤ QB a ∧ Seg w2 (QB a) 2 0 (L a).np (fun k => .int .i64 ((L a).p k))) ∧ Seg w2 gp 2 0 m (fun i => .int .i64 (x.p i)) ∧ Below w.heap.size w w2) := ⟨ownsV_later HR.out.1 hb2, fun a ha => ⟨(HR.out.2.2.1 a ha).1, (HR.out.2.2.1 a ha).2.of_block (hb2.block _ (HR.out.2.2.1 a ha).2.lt)⟩, hs2, HR.out.2.2.2.trans (hb2.mono HR.out.2.2.2.size)⟩
      have hws : w.heap.size ≤ w2.heap.size := H2.out.2.2.2.size
      have HG : Hid (wr.heap.size ≤ gp) := hg2
      clear hg2 hs2 hb2 c0 c1 c2 c3 c4 c5
      go_wp2_with (first | (at_builtin; refine pushV rfl (.tmp 12) (.tmp 18) 30 rfl 80 (.agg #[.int .i64 0, .int .i64 0, .int .i64 0, .slice none 0 0, .int .i64 0, .int .i64 0]) 6 64 Try.underlying30 infoLi rfl (by decide) (by decide) _ [.int .i64 x.id, .int .i64 x.fr, .int .i64 x.tt, .slice (some ⟨gp, 0, none⟩) m cp, .int .i64 x.fi, .int .i64 x.wd] rfl (lrow_one x (some ⟨gp, 0, none⟩) m cp) w.heap.size _ k _ rfl H2.out.1 1 rfl hcI hws ?_; intro v1 w3 own3 grow3 nn3))
      have H3 : Hid (w3.ownsRow w.heap.size 80 6 v1 (k + 1) (flat (lfa L (fun a => if a = k then gp else QB a) (fun a => if a = k then cp else QC a)) (k + 1)) ∧ v1 ≠ .slice none 0 0 ∧ (∀ a, a < k + 1 → w.heap.size ≤ (if a = k then gp else QB a) ∧ Seg w3 (if a = k then gp else QB a) 2 0 (L a).np (fun k => .int .i64 ((L a).p k))) ∧ Below w.heap.size w w3) := by
        obtain ⟨u1, u2, u3, u4⟩ := H2.out
        obtain ⟨e1, e2⟩ := HX.out
        have key : ∀ q (f : Nat → Value) (l : Nat), Seg w2 q 2 0 l f → Seg w3 q 2 0 l f := fun q f l hq => (hq.alloc _).grown grow3 (ownsV_off u1 hq (by decide))
        refine ⟨?_, nn3, fun a ha => ?_, pushV_below u1 grow3 u4 hws⟩
        · have : flat (lfa L (fun a => if a = k then gp else QB a) (fun a => if a = k then cp else QC a)) (k + 1) = flat (lfa L QB QC) k ++ [.int .i64 x.id, .int .i64 x.fr, .int .i64 x.tt, .slice (some ⟨gp, 0, none⟩) m cp, .int .i64 x.fi, .int .i64 x.wd] := by
            rw [flat_succ, flat_alike (G := lfa L QB QC) fun a ha => by unfold lfa; simp only [if_neg (show a ≠ k by omega)]]
            congr 1
            unfold lfa lrow
            rw [← e2, ← e1]
            simp
          rw [this]
          exact own3
        · by_cases e : a = k
          · subst e
            rw [if_pos rfl, ← e2, ← e1]
            exact ⟨by have := HG.out; have := HR.out.2.2.2.size; omega, key _ _ _ u3⟩
          · rw [if_neg e]
            exact ⟨(u2 a (by omega)).1, key _ _ _ (u2 a (by omega)).2⟩
      clear own3 grow3 nn3
      go_wp2
      go_roundw
      case rel => exact ⟨k + 1, _, _, _, by omega, rfl, by simp, H3⟩
      case measure => simp [intOf]; omega
    · obtain rfl : n = k := by omega
      obtain ⟨u1, u2, u3, u4⟩ := HR.out
      obtain ⟨g, cp, rfl, hg, hsg⟩ := owned_segV (m := 6) (F := lfa L QB QC) (f := fun a j => lcell (L a) (.slice (some ⟨QB a, 0, none⟩) (L a).np (QC a)) j) (fun _ => rfl) (fun a ha j hj => lrow_at _ _ j hj) u1 u2
      have HL : Hid (Cpy w.heap.size wr g n QB QC L ∧ Below w.heap.size w wr) := ⟨⟨hg, hsg, u3⟩, u4⟩
      clear H u1 u2 u3 u4 hg hsg HR
      go_wp2
      go_ret
      exact ⟨g, cp, QB, QC, rfl, HL.out⟩
end Go.Proofs.Ytinfbbbgfkaioaa
