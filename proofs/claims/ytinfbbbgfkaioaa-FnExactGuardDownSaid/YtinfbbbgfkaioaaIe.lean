/- A light's slots are entered into a book, or taken out of it: contracts. -/
import Derived.Test.YtinfbbbgfkaioaaIb
namespace Go.Proofs.Ytinfbbbgfkaioaa
open Go.RowKit Go.Maps
set_option linter.unusedVariables false
set_option linter.unusedSimpArgs false
/-- Of all blocks that were there only b has turned. -/
structure Onl (b : Nat) (w w' : World) : Prop where
  below : Below b w w'
  rest : ∀ k, k < w.heap.size → k ≠ b → w'.heap[k]? = w.heap[k]?
namespace Onl
variable {b : Nat} {w w' w2 : World}
theorem refl (b : Nat) (w : World) : Onl b w w := ⟨Below.refl _ _, fun _ _ _ => rfl⟩
theorem trans (h : Onl b w w') (k : Onl b w' w2) : Onl b w w2 := ⟨h.below.trans k.below, fun i hi hn => (k.rest i (Nat.lt_of_lt_of_le hi h.below.size) hn).trans (h.rest i hi hn)⟩
theorem of_below (h : Below w.heap.size w w') (hb : b ≤ w.heap.size) : Onl b w w' := ⟨h.mono hb, fun k hk _ => h.block k hk⟩
theorem of_grown (h : w.grownBy w' (some b)) (hb : b ≤ w.heap.size) : Onl b w w' := ⟨(Below.refl b w).grown h hb (fun k e => by cases e; exact Nat.le_refl _), fun k hk hn => h.block k hk (by simpa using hn)⟩
theorem size (h : Onl b w w') : w.heap.size ≤ w'.heap.size := h.below.size
theorem blk {q : Nat} {cs : Array Value} {t : TypeId} (h : Onl b w w') (k : Blk w q cs t) (hq : q ≠ b) : Blk w' q cs t := (h.rest q k.lt hq).trans k
theorem cell {p : Addr} {v : Value} (h : Onl b w w') (k : w.cell? p = some v) (hp : p.block ≠ b) : w'.cell? p = some v := by
  have hlt := World.block_lt_of_cell? _ _ k
  rw [World.cell?_of_block (w := w) (h.rest p.block hlt hp)]
  exact k
theorem rdrow {v : Value} {n : Nat} {f : Nat → Int} (h : Onl b w w') (k : RdRow w v n f) (hb : ∃ es c, w.heap[b]? = some (.map es c)) : RdRow w' v n f := by
  rcases k with k | ⟨q, off, cap, rfl, k⟩
  · exact Or.inl k
  · refine Or.inr ⟨q, off, cap, rfl, fun i hi => h.cell (k i hi) ?_⟩
    intro e
    obtain ⟨es, c, hm⟩ := hb
    have := k i hi
    simp only at e
    subst e
    simp [World.cell?, hm] at this
theorem rdv {v : Value} {n m : Nat} {f : Nat → Nat → Value} (h : Onl b w w') (k : RdV w v n m f) (hb : ∃ es c, w.heap[b]? = some (.map es c)) : RdV w' v n m f := by
  rcases k with k | ⟨q, off, cap, rfl, k⟩
  · exact Or.inl k
  · refine Or.inr ⟨q, off, cap, rfl, fun i hi j hj => h.cell (k i hi j hj) ?_⟩
    intro e
    obtain ⟨es, c, hm⟩ := hb
    have := k i hi j hj
    simp only at e
    subst e
    simp [World.cell?, hm] at this
theorem rdl {v : Value} {n : Nat} {L : Nat → Li} (h : Onl b w w') (k : RdL w v n L) (hb : ∃ es c, w.heap[b]? = some (.map es c)) : RdL w' v n L := by
  obtain ⟨PV, h1, h2⟩ := k
  exact ⟨PV, h.rdv h1 hb, fun i hi => h.rdrow (h2 i hi) hb⟩
end Onl
theorem Book.map {w : World} {b n : Nat} {B : Int → Int → Int} (h : Book w b n B) : ∃ es c, w.heap[b]? = some (.map es c) := by
  obtain ⟨D, ⟨es, c, n1, _⟩, _⟩ := h
  exact ⟨es, c, n1⟩
theorem Book.ne {w : World} {b n q : Nat} {B : Int → Int → Int} {cs : Array Value} {t : TypeId} (h : Book w b n B) (k : Blk w q cs t) : q ≠ b := by
  obtain ⟨es, c, n1⟩ := h.map
  intro e
  subst e
  rw [show w.heap[q]? = _ from k] at n1
  cases n1
/-- What is known of a light that may be entered. -/
structure Fine (x : Li) (m : Nat) : Prop where
  np : x.np = m
  m8 : m ≤ 8
  m1 : 0 < m
  w1 : 1 ≤ x.wd
  w64 : x.wd ≤ 64
  f0 : 0 ≤ x.fi
  f64 : x.fi ≤ 64
  id1 : 1 ≤ x.id
  idh : x.id ≤ 9223372036854775807
  fib : ∀ i, i < m → 0 ≤ x.p i ∧ x.p i < 14
  once : ∀ i j, i < x.np → j < x.np → x.p i = x.p j → i = j
theorem Fine.sl {x : Li} {m t : Nat} (h : Fine x m) (ht : t < m * x.wd.toNat) : 0 ≤ Nt.slF x t ∧ Nt.slF x t < 14 ∧ 0 ≤ Nt.slS x t ∧ Nt.slS x t < 200 := by
  have hW : 0 < x.wd.toNat := by have := h.w1; omega
  have h1 := h.fib (t / x.wd.toNat) ((Nat.div_lt_iff_lt_mul hW).2 ht)
  have h2 := Nat.mod_lt t hW
  have h3 := h.f0
  have h4 := h.f64
  have h5 := h.w64
  unfold Nt.slF Nt.slS
  omega
theorem sls_seg {w : World} {base N : Nat} {x : Li} {v : Value} (h : w.ownsRow base 145 2 v N (flat (sls x) N)) (h0 : 0 < N) : ∃ g cg, v = .slice (some ⟨g, 0, none⟩) N cg ∧ base ≤ g ∧ SegV w g 145 N 2 (scell x) := by
  have hf : ∀ i, i < N → ∀ j, j < 2 → (sls x i)[j]? = some (scell x i j) := by
    intro i _ j hj
    match j, hj with
    | 0, _ => rfl
    | 1, _ => rfl
  refine owned_segV (F := sls x) (f := scell x) (fun _ => rfl) hf h ?_
  intro e
  obtain ⟨q0, q | ⟨g, cap, cur, a1, _⟩⟩ := h
  · have := q.2
    omega
  · rw [e] at a1; cases a1
theorem w64_small {a : Int} (h0 : 0 ≤ a) (h1 : a < 200) : W64 a := by unfold W64; omega
theorem m_few {x : Li} {m : Nat} (h : Fine x m) : m * x.wd.toNat ≤ 512 := by
  have h1 := h.m8
  have h2 := h.w64
  have : m * x.wd.toNat ≤ 8 * 64 := Nat.mul_le_mul (by omega) (by omega)
  omega
set_option maxRecDepth 20000 in
set_option maxHeartbeats 3200000 in
theorem enter_ok {w : World} {b n : Nat} {B : Int → Int → Int} {po : Option Addr} {m pc : Nat} (x : Li) (hB : Book w b n B) (hn : n ≤ 100000) (hp : RdRow w (.slice po m pc) m x.p) (hF : Fine x m) (hfree : ∀ t, t < m * x.wd.toNat → B (Nt.slF x t) (Nt.slS x t) = 0) :
    Calls Try.prog 111 #[.map (some b), .agg #[.int .i64 x.id, .int .i64 x.fr, .int .i64 x.tt, .slice po m pc, .int .i64 x.fi, .int .i64 x.wd]] w fun e w' => e = .returned (.bool true) ∧ Book w' b (n + m * x.wd.toNat) (Nt.ent B x (m * x.wd.toNat)) ∧ Onl b w w' := by
  obtain ⟨X, hX⟩ : ∃ X, X = w.alloc (.cells #[.int .i64 x.id, .int .i64 x.fr, .int .i64 x.tt, .slice po m pc, .int .i64 x.fi, .int .i64 x.wd] 80) := ⟨_, rfl⟩
  have BX : Hid (Blk X w.heap.size #[.int .i64 x.id, .int .i64 x.fr, .int .i64 x.tt, .slice po m pc, .int .i64 x.fi, .int .i64 x.wd] 80 ∧ Below w.heap.size w X) := by rw [hX]; exact ⟨Blk.new rfl, (Below.refl _ _).alloc (Nat.le_refl _) _⟩
  have hXz : w.heap.size ≤ X.heap.size := Nat.le_of_lt BX.out.1.lt
  have HP : Hid (RdRow X (.slice po m pc) m x.p ∧ Book X b n B ∧ Fine x m ∧ b < w.heap.size) := ⟨hp.later BX.out.2, hB.later BX.out.2, hF, hB.lt⟩
  have hm8 : m ≤ 8 := hF.m8
  obtain ⟨N, hN⟩ : ∃ N, N = m * x.wd.toNat := ⟨_, rfl⟩
  have HN : Hid (N = m * x.wd.toNat) := hN
  have hNb : (N : Int) ≤ 512 := by have := m_few hF; omega
  have hN0 : 0 < N := by rw [hN]; exact Nat.mul_pos hF.m1 (by have := hF.w1; omega)
  have hid0 : x.id ≠ 0 := by have := hF.id1; omega
  have hidw : W64 x.id := ⟨by have := hF.id1; omega, hF.idh⟩
  have HFr : Hid (∀ t, t < N → B (Nt.slF x t) (Nt.slS x t) = 0) := by rw [hN]; exact hfree
  rw [← hN]
  clear hfree
  clear hp hB hF hN
  go_enter Try.func111, Try.ntmps111
  go_wp2_with fail
  rw [← hX]
  clear hX
  have x0 : X.cell? ⟨w.heap.size, 0, none⟩ = some (.int .i64 x.id) := BX.out.1.cell rfl
  have x1 : X.cell? ⟨w.heap.size, 1, none⟩ = some (.int .i64 x.fr) := BX.out.1.cell rfl
  have x2 : X.cell? ⟨w.heap.size, 2, none⟩ = some (.int .i64 x.tt) := BX.out.1.cell rfl
  have x3 : X.cell? ⟨w.heap.size, 3, none⟩ = some (.slice po m pc) := BX.out.1.cell rfl
  have x4 : X.cell? ⟨w.heap.size, 4, none⟩ = some (.int .i64 x.fi) := BX.out.1.cell rfl
  have x5 : X.cell? ⟨w.heap.size, 5, none⟩ = some (.int .i64 x.wd) := BX.out.1.cell rfl
  go_wp2_with fail
  refine (slotsOf_any x HP.out.1 hm8 HP.out.2.2.1.w1 HP.out.2.2.1.w64 HP.out.2.2.1.f0 HP.out.2.2.1.f64).mono ?_
  rintro e w1 ⟨v, rfl, hown, hb1⟩
  clear x0 x1 x2 x3 x4 x5
  rw [← HN.out] at hown
  obtain ⟨g, cg, hv, hgX, hseg⟩ := sls_seg hown hN0
  subst hv
  have H1 : Hid (SegV w1 g 145 N 2 (scell x) ∧ Blk w1 w.heap.size #[.int .i64 x.id, .int .i64 x.fr, .int .i64 x.tt, .slice po m pc, .int .i64 x.fi, .int .i64 x.wd] 80 ∧ Book w1 b n B ∧ Below w.heap.size w w1 ∧ X.heap.size ≤ g) := ⟨hseg, BX.out.1.old hb1, HP.out.2.1.later hb1, BX.out.2.trans (hb1.mono hXz), hgX⟩
  clear hown hseg hb1 hgX
  go_wp2_with fail
  go_loopw [10] (fun i wr => ∃ t : Nat, t ≤ N ∧ i = .int .i64 t ∧ Hid (Book wr b (n + t) (Nt.ent B x t)) ∧ Hid (Onl b w1 wr)) (fun i _ => N - (intOf i).toNat)
  case atStart => exact ⟨0, Nat.zero_le _, rfl, H1.out.2.2.1, Onl.refl _ _⟩
  case round =>
    obtain ⟨t, ht, rfl, HBk, HO⟩ := hrel
    by_cases htN : t < N
    · skip
      have hgb : g ≠ b := by have := H1.out.2.2.2.2; have := HP.out.2.2.2; omega
      have hwb : w.heap.size ≠ b := by have := HP.out.2.2.2; omega
      obtain ⟨f, hf⟩ : ∃ f, f = Nt.slF x t := ⟨_, rfl⟩
      obtain ⟨s, hs⟩ : ∃ s, s = Nt.slS x t := ⟨_, rfl⟩
      have d0 : wr.cell? ⟨g, t * 2, none⟩ = some (.int .i64 f) := by rw [hf]; exact HO.out.cell (H1.out.1.cell htN (show 0 < 2 by omega)) hgb
      have d1 : wr.cell? ⟨g, t * 2 + 1, none⟩ = some (.int .i64 s) := by rw [hs]; exact HO.out.cell (H1.out.1.cell htN (show 1 < 2 by omega)) hgb
      have hfs := HP.out.2.2.1.sl (t := t) (by rw [← HN.out]; exact htN)
      have wf : W64 f := by rw [hf]; exact w64_small hfs.1 (by omega)
      have ws : W64 s := by rw [hs]; exact w64_small hfs.2.2.1 hfs.2.2.2
      have HFS : Hid (f = Nt.slF x t ∧ s = Nt.slS x t) := ⟨hf, hs⟩
      have HV : Hid (Nt.ent B x t f s = B f s) := by show Nt.ent B x t f s = B f s; rw [hf, hs]; exact Nt.ent_at HP.out.2.2.1.w1 HP.out.2.2.1.once (by rw [HP.out.2.2.1.np, ← HN.out]; exact htN)
      obtain ⟨Y, hY⟩ : ∃ Y, Y = wr.alloc (.cells #[.int .i64 f, .int .i64 s] 145) := ⟨_, rfl⟩
      have BY : Hid (Blk Y wr.heap.size #[.int .i64 f, .int .i64 s] 145 ∧ Book Y b (n + t) (Nt.ent B x t) ∧ Onl b w1 Y ∧ Blk Y w.heap.size #[.int .i64 x.id, .int .i64 x.fr, .int .i64 x.tt, .slice po m pc, .int .i64 x.fi, .int .i64 x.wd] 80) := by
        rw [hY]
        have hbz : b ≤ wr.heap.size := by have := HO.out.size; have := H1.out.2.2.1.lt; omega
        have hbl : Below wr.heap.size wr (wr.alloc (.cells #[.int .i64 f, .int .i64 s] 145)) := (Below.refl _ _).alloc (Nat.le_refl _) _
        exact ⟨Blk.new rfl, HBk.out.later hbl, HO.out.trans (Onl.of_below hbl hbz), (HO.out.blk H1.out.2.1 hwb).alloc _⟩
      have hgl : g < wr.heap.size := World.block_lt_of_cell? _ _ d0
      have htI : (t : Int) < N := by omega
      clear hfs hf hs
      go_upto_region 4 with fail
      rw [← hY]
      clear hY d0 d1
      have y0 : Y.cell? ⟨wr.heap.size, 0, none⟩ = some (.int .i64 f) := BY.out.1.cell rfl
      have y1 : Y.cell? ⟨wr.heap.size, 1, none⟩ = some (.int .i64 s) := BY.out.1.cell rfl
      have z0 : Y.cell? ⟨w.heap.size, 0, none⟩ = some (.int .i64 x.id) := BY.out.2.2.2.cell rfl
      have HZ : Hid (Nt.ent B x t f s = 0) := by rw [HV.out, HFS.out.1, HFS.out.2]; exact HFr.out t htN
      go_wp2_with (first | (at_lookup; refine look_book BY.out.2.1 rfl (.tmp 14) (.tmp 15) rfl f s wf ws rfl rfl ?_; rw [HZ.out]) | (at_mapUpdate; refine put_book BY.out.2.1 rfl (.tmp 18) (.tmp 19) (.tmp 21) rfl f s x.id wf ws hidw hid0 (by omega) rfl rfl rfl ?_; intro w5 hbk5 hgr5))
      have HB5 : Hid (Book w5 b (n + (t + 1)) (Nt.ent B x (t + 1)) ∧ Onl b w1 w5) := by
        refine ⟨?_, BY.out.2.2.1.trans (Onl.of_grown hgr5 (Nat.le_of_lt BY.out.2.1.lt))⟩
        rw [← Nat.add_assoc]
        refine hbk5.congr fun f' s' => ?_
        show _ = (if Nt.slF x t = f' ∧ Nt.slS x t = s' then x.id else Nt.ent B x t f' s')
        rw [← HFS.out.1, ← HFS.out.2]
      clear hbk5 hgr5 y0 y1 z0
      go_wp2
      go_roundw
      case rel => exact ⟨t + 1, by omega, by simp, HB5.out.1, HB5.out.2⟩
      case measure => simp [intOf]; omega
    · obtain rfl : t = N := by omega
      go_wp2
      go_ret
      exact ⟨rfl, HBk.out, (Onl.of_below H1.out.2.2.2.1 (Nat.le_of_lt HP.out.2.2.2)).trans HO.out⟩
set_option maxRecDepth 20000 in
set_option maxHeartbeats 3200000 in
theorem enter_no {w : World} {b n : Nat} {B : Int → Int → Int} {po : Option Addr} {m pc : Nat} (x : Li) (hB : Book w b n B) (hn : n ≤ 100000) (hp : RdRow w (.slice po m pc) m x.p) (hF : Fine x m) (hhit : ∃ t, t < m * x.wd.toNat ∧ B (Nt.slF x t) (Nt.slS x t) ≠ 0) :
    Calls Try.prog 111 #[.map (some b), .agg #[.int .i64 x.id, .int .i64 x.fr, .int .i64 x.tt, .slice po m pc, .int .i64 x.fi, .int .i64 x.wd]] w fun e w' => e = .returned (.bool false) ∧ Onl b w w' := by
  obtain ⟨X, hX⟩ : ∃ X, X = w.alloc (.cells #[.int .i64 x.id, .int .i64 x.fr, .int .i64 x.tt, .slice po m pc, .int .i64 x.fi, .int .i64 x.wd] 80) := ⟨_, rfl⟩
  have BX : Hid (Blk X w.heap.size #[.int .i64 x.id, .int .i64 x.fr, .int .i64 x.tt, .slice po m pc, .int .i64 x.fi, .int .i64 x.wd] 80 ∧ Below w.heap.size w X) := by rw [hX]; exact ⟨Blk.new rfl, (Below.refl _ _).alloc (Nat.le_refl _) _⟩
  have hXz : w.heap.size ≤ X.heap.size := Nat.le_of_lt BX.out.1.lt
  have HP : Hid (RdRow X (.slice po m pc) m x.p ∧ Book X b n B ∧ Fine x m ∧ b < w.heap.size) := ⟨hp.later BX.out.2, hB.later BX.out.2, hF, hB.lt⟩
  have hm8 : m ≤ 8 := hF.m8
  obtain ⟨N, hN⟩ : ∃ N, N = m * x.wd.toNat := ⟨_, rfl⟩
  have HN : Hid (N = m * x.wd.toNat) := hN
  have hNb : (N : Int) ≤ 512 := by have := m_few hF; omega
  have hN0 : 0 < N := by rw [hN]; exact Nat.mul_pos hF.m1 (by have := hF.w1; omega)
  have hid0 : x.id ≠ 0 := by have := hF.id1; omega
  have hidw : W64 x.id := ⟨by have := hF.id1; omega, hF.idh⟩
  have HFr : Hid (∃ t, t < N ∧ B (Nt.slF x t) (Nt.slS x t) ≠ 0) := by rw [hN]; exact hhit
  clear hhit
  clear hp hB hF hN
  go_enter Try.func111, Try.ntmps111
  go_wp2_with fail
  rw [← hX]
  clear hX
  have x0 : X.cell? ⟨w.heap.size, 0, none⟩ = some (.int .i64 x.id) := BX.out.1.cell rfl
  have x1 : X.cell? ⟨w.heap.size, 1, none⟩ = some (.int .i64 x.fr) := BX.out.1.cell rfl
  have x2 : X.cell? ⟨w.heap.size, 2, none⟩ = some (.int .i64 x.tt) := BX.out.1.cell rfl
  have x3 : X.cell? ⟨w.heap.size, 3, none⟩ = some (.slice po m pc) := BX.out.1.cell rfl
  have x4 : X.cell? ⟨w.heap.size, 4, none⟩ = some (.int .i64 x.fi) := BX.out.1.cell rfl
  have x5 : X.cell? ⟨w.heap.size, 5, none⟩ = some (.int .i64 x.wd) := BX.out.1.cell rfl
  go_wp2_with fail
  refine (slotsOf_any x HP.out.1 hm8 HP.out.2.2.1.w1 HP.out.2.2.1.w64 HP.out.2.2.1.f0 HP.out.2.2.1.f64).mono ?_
  rintro e w1 ⟨v, rfl, hown, hb1⟩
  clear x0 x1 x2 x3 x4 x5
  rw [← HN.out] at hown
  obtain ⟨g, cg, hv, hgX, hseg⟩ := sls_seg hown hN0
  subst hv
  have H1 : Hid (SegV w1 g 145 N 2 (scell x) ∧ Blk w1 w.heap.size #[.int .i64 x.id, .int .i64 x.fr, .int .i64 x.tt, .slice po m pc, .int .i64 x.fi, .int .i64 x.wd] 80 ∧ Book w1 b n B ∧ Below w.heap.size w w1 ∧ X.heap.size ≤ g) := ⟨hseg, BX.out.1.old hb1, HP.out.2.1.later hb1, BX.out.2.trans (hb1.mono hXz), hgX⟩
  clear hown hseg hb1 hgX
  go_wp2_with fail
  go_loopw [10] (fun i wr => ∃ t : Nat, t ≤ N ∧ i = .int .i64 t ∧ Hid (Book wr b (n + t) (Nt.ent B x t)) ∧ Hid (Onl b w1 wr) ∧ Hid (∀ u, u < t → B (Nt.slF x u) (Nt.slS x u) = 0)) (fun i _ => N - (intOf i).toNat)
  case atStart => exact ⟨0, Nat.zero_le _, rfl, H1.out.2.2.1, Onl.refl _ _, fun u hu => absurd hu (Nat.not_lt_zero _)⟩
  case round =>
    obtain ⟨t, ht, rfl, HBk, HO, HA⟩ := hrel
    by_cases htN : t < N
    · skip
      have hgb : g ≠ b := by have := H1.out.2.2.2.2; have := HP.out.2.2.2; omega
      have hwb : w.heap.size ≠ b := by have := HP.out.2.2.2; omega
      obtain ⟨f, hf⟩ : ∃ f, f = Nt.slF x t := ⟨_, rfl⟩
      obtain ⟨s, hs⟩ : ∃ s, s = Nt.slS x t := ⟨_, rfl⟩
      have d0 : wr.cell? ⟨g, t * 2, none⟩ = some (.int .i64 f) := by rw [hf]; exact HO.out.cell (H1.out.1.cell htN (show 0 < 2 by omega)) hgb
      have d1 : wr.cell? ⟨g, t * 2 + 1, none⟩ = some (.int .i64 s) := by rw [hs]; exact HO.out.cell (H1.out.1.cell htN (show 1 < 2 by omega)) hgb
      have hfs := HP.out.2.2.1.sl (t := t) (by rw [← HN.out]; exact htN)
      have wf : W64 f := by rw [hf]; exact w64_small hfs.1 (by omega)
      have ws : W64 s := by rw [hs]; exact w64_small hfs.2.2.1 hfs.2.2.2
      have HFS : Hid (f = Nt.slF x t ∧ s = Nt.slS x t) := ⟨hf, hs⟩
      have HV : Hid (Nt.ent B x t f s = B f s) := by show Nt.ent B x t f s = B f s; rw [hf, hs]; exact Nt.ent_at HP.out.2.2.1.w1 HP.out.2.2.1.once (by rw [HP.out.2.2.1.np, ← HN.out]; exact htN)
      obtain ⟨Y, hY⟩ : ∃ Y, Y = wr.alloc (.cells #[.int .i64 f, .int .i64 s] 145) := ⟨_, rfl⟩
      have BY : Hid (Blk Y wr.heap.size #[.int .i64 f, .int .i64 s] 145 ∧ Book Y b (n + t) (Nt.ent B x t) ∧ Onl b w1 Y ∧ Blk Y w.heap.size #[.int .i64 x.id, .int .i64 x.fr, .int .i64 x.tt, .slice po m pc, .int .i64 x.fi, .int .i64 x.wd] 80) := by
        rw [hY]
        have hbz : b ≤ wr.heap.size := by have := HO.out.size; have := H1.out.2.2.1.lt; omega
        have hbl : Below wr.heap.size wr (wr.alloc (.cells #[.int .i64 f, .int .i64 s] 145)) := (Below.refl _ _).alloc (Nat.le_refl _) _
        exact ⟨Blk.new rfl, HBk.out.later hbl, HO.out.trans (Onl.of_below hbl hbz), (HO.out.blk H1.out.2.1 hwb).alloc _⟩
      have hgl : g < wr.heap.size := World.block_lt_of_cell? _ _ d0
      have htI : (t : Int) < N := by omega
      clear hfs hf hs
      go_upto_region 4 with fail
      rw [← hY]
      clear hY d0 d1
      have y0 : Y.cell? ⟨wr.heap.size, 0, none⟩ = some (.int .i64 f) := BY.out.1.cell rfl
      have y1 : Y.cell? ⟨wr.heap.size, 1, none⟩ = some (.int .i64 s) := BY.out.1.cell rfl
      have z0 : Y.cell? ⟨w.heap.size, 0, none⟩ = some (.int .i64 x.id) := BY.out.2.2.2.cell rfl
      obtain ⟨c, hc⟩ : ∃ c, c = B f s := ⟨_, rfl⟩
      have HCe : Hid (Nt.ent B x t f s = c) := by rw [HV.out, hc]; rfl
      have HCb : Hid (c = B (Nt.slF x t) (Nt.slS x t)) := by show c = _; rw [hc, HFS.out.1, HFS.out.2]
      clear hc
      by_cases hz : c = 0
      · have hzb : (c != 0) = false := by simp [hz]
        have HA2 : Hid (∀ u, u < t + 1 → B (Nt.slF x u) (Nt.slS x u) = 0) := fun u hu => by
          by_cases e : u = t
          · subst e; rw [← HCb.out]; exact hz
          · exact HA.out u (by omega)
        clear hz
        go_wp2_with (first | (at_lookup; refine look_book BY.out.2.1 rfl (.tmp 14) (.tmp 15) rfl f s wf ws rfl rfl ?_; rw [HCe.out]) | (at_mapUpdate; refine put_book BY.out.2.1 rfl (.tmp 18) (.tmp 19) (.tmp 21) rfl f s x.id wf ws hidw hid0 (by omega) rfl rfl rfl ?_; intro w5 hbk5 hgr5))
        have HB5 : Hid (Book w5 b (n + (t + 1)) (Nt.ent B x (t + 1)) ∧ Onl b w1 w5) := by
          refine ⟨?_, BY.out.2.2.1.trans (Onl.of_grown hgr5 (Nat.le_of_lt BY.out.2.1.lt))⟩
          rw [← Nat.add_assoc]
          refine hbk5.congr fun f' s' => ?_
          show _ = (if Nt.slF x t = f' ∧ Nt.slS x t = s' then x.id else Nt.ent B x t f' s')
          rw [← HFS.out.1, ← HFS.out.2]
        clear hbk5 hgr5 y0 y1 z0
        go_wp2
        go_roundw
        case rel => exact ⟨t + 1, by omega, by simp, HB5.out.1, HB5.out.2, HA2⟩
        case measure => simp [intOf]; omega
      · have hzb : (c != 0) = true := by simpa using hz
        clear hz
        go_wp2_with (first | (at_lookup; refine look_book BY.out.2.1 rfl (.tmp 14) (.tmp 15) rfl f s wf ws rfl rfl ?_; rw [HCe.out]))
        go_ret
        exact ⟨rfl, (Onl.of_below H1.out.2.2.2.1 (Nat.le_of_lt HP.out.2.2.2)).trans BY.out.2.2.1⟩
    · obtain ⟨u, hu, hne⟩ := HFr.out
      exact absurd (HA.out u (by omega)) hne
end Go.Proofs.Ytinfbbbgfkaioaa
