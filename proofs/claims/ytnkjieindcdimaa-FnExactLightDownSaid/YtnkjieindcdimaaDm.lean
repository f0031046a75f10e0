/- The program's LightDown: contract. -/
import Derived.Test.YtnkjieindcdimaaDn
import Derived.Test.YtnkjieindcdimaaIk
import Derived.Deep.RegionHeld3
namespace Go.Proofs.Ytnkjieindcdimaa
open Go.RowKit Go.Maps
set_option linter.unusedVariables false
set_option linter.unusedSimpArgs false
/-- A book without light x. -/
def less (x : Li) (B : Int → Int → Int) (f s : Int) : Int := if Nt.hasS x f s = true then 0 else B f s
/-- While a light is taken out of a book: nothing but the book has changed, and without the light it is what it shall be. -/
def Tk (b q : Nat) (x : Li) (B : Int → Int → Int) (w W : World) : Prop := Onl b w W ∧ ∃ B2, Book W b q B2 ∧ ∀ f s, less x B2 f s = less x B f s
theorem Tk.start {b q : Nat} {x : Li} {B : Int → Int → Int} {w : World} (h : Book w b q B) : Tk b q x B w w := ⟨Onl.refl _ _, B, h, fun _ _ => rfl⟩
theorem Tk.drew {b q : Nat} {x : Li} {B : Int → Int → Int} {w W : World} (h : Tk b q x B w W) : Tk b q x B w W.drew := by
  obtain ⟨h1, B2, h2, h3⟩ := h
  exact ⟨⟨h1.below.drew, h1.rest⟩, B2, h2.later ((Below.refl _ _).drew), h3⟩
theorem less_less (x : Li) (B : Int → Int → Int) (f s : Int) : less x (less x B) f s = less x B f s := by
  unfold less
  by_cases h : Nt.hasS x f s = true
  · rw [if_pos h, if_pos h]
  · rw [if_neg h]
theorem tkc_any {w W : World} {b q : Nat} {B : Int → Int → Int} {po : Option Addr} {m pc : Nat} (x : Li) (hT : Tk b q x B w W) (hp : RdRow W (.slice po m pc) m x.p) (hF : Fine x m) :
    Calls Try.prog 93 #[.map (some b), .agg #[.int .i64 x.id, .int .i64 x.fr, .int .i64 x.tt, .slice po m pc, .int .i64 x.fi, .int .i64 x.wd]] W fun e w' => e = .returned (.tuple #[]) ∧ Book w' b q (less x B) ∧ Tk b q x B w w' := by
  obtain ⟨h1, B2, h2, h3⟩ := hT
  refine (takeOut_any x h2 hp hF).mono ?_
  rintro e w' ⟨rfl, k1, k2⟩
  have k3 : Book w' b q (less x B) := k1.congr fun f s => by rw [tko_all hF.w1 hF.np, ← h3]; rfl
  exact ⟨rfl, k3, h1.trans k2, less x B, k3, less_less x B⟩
theorem ne_book {w : World} {b n q o : Nat} {B : Int → Int → Int} {v : Value} (h : Book w b n B) (k : w.cell? ⟨q, o, none⟩ = some v) : q ≠ b := by
  obtain ⟨es, c, n1⟩ := h.map
  intro e
  subst e
  simp [World.cell?, n1] at k
theorem OwLs.wide {lo hi lo' hi' : Nat} {w : World} {g n : Nat} {L : Nat → Li} (h : OwLs lo hi w g n L) (h1 : lo' ≤ lo) (h2 : hi ≤ hi') : OwLs lo' hi' w g n L := by
  obtain ⟨PB, PC, q1, q2, q3, q4, q5⟩ := h
  exact ⟨PB, PC, by omega, by omega, q3, fun i hi => ⟨by have := (q4 i hi).1; omega, by have := (q4 i hi).2.1; omega, (q4 i hi).2.2⟩, q5⟩
theorem hasS_first {x : Li} {m : Nat} (h : Fine x m) : Nt.hasS x (x.p 0) x.fi = true := Nt.hasS_iff.2 ⟨⟨0, by rw [h.np]; exact h.m1, rfl⟩, Int.le_refl _, by have := h.w1; omega⟩
/-- What the closure says once light t is taken out. -/
theorem gone_says {nodes slots : Int} {nf : Nat} {F : Nat → Fb} {n t : Nat} {L : Nat → Li} (h : Nt.AllOk nodes slots nf F n L) (ht : t < n) (hF : ∀ k, k < n → Fine (L k) (L k).np) : ∀ k, k < n → (less (L t) (Nt.bk L n) ((L k).p 0) (L k).fi == (L k).id) = !decide (k = t) := by
  intro k hk
  have h1 := hasS_first (hF k hk)
  have h2 := h.bk hk h1
  have h3 := (hF k hk).id1
  unfold less
  by_cases e : k = t
  · subst e
    rw [if_pos h1]
    simp
    omega
  · have h4 : ¬ Nt.hasS (L t) ((L k).p 0) (L k).fi = true := fun h5 => by
      have h6 := h.bk ht h5
      rw [h2] at h6
      exact e (h.id_one hk ht h6)
    rw [if_neg h4, h2]
    simp [e]
set_option maxRecDepth 20000 in
set_option maxHeartbeats 3200000 in
theorem iDn_any {w : World} {ao lo : Option Addr} {nf cp n cl : Nat} {nodes slots id : Int} {F : Nat → Fb} {L : Nat → Li} {C : Int} (hC : C = dcode nodes slots nf F n L id) (h : Rf w (.slice ao nf cp) nf F) (hl : RdL w (.slice lo n cl) n L) (hf : nf ≤ 1048576) (hw : LFew n L) (hcp : nf ≤ cp) (hd : LBd n L) :
    Calls Try.prog 49 #[.agg #[.int .i64 nodes, .int .i64 slots, .slice ao nf cp], .slice lo n cl, .int .i64 id] w fun e w' => ∃ v, e = .returned (.agg #[.int .i64 C, v]) ∧ OwnQ w.heap.size w'.heap.size w' C v (n - 1) (fun i => L (sk (fnd L id n).toNat i)) ∧ Below w.heap.size w w' := by
  obtain ⟨X, hX⟩ : ∃ X, X = ((w.alloc (.cells #[.int .i64 nodes, .int .i64 slots, .slice ao nf cp] 29)).alloc (.cells #[.int .i64 0, .slice none 0 0] 71)) := ⟨_, rfl⟩
  have BX : Hid (Blk X w.heap.size #[.int .i64 nodes, .int .i64 slots, .slice ao nf cp] 29 ∧ Blk X (w.heap.size + 1) #[.int .i64 0, .slice none 0 0] 71 ∧ Below w.heap.size w X) := by rw [hX]; exact ⟨(Blk.new rfl).alloc _, Blk.new (by simp), ((Below.refl _ _).alloc (Nat.le_refl _) _).alloc (by simp) _⟩
  have CX : ∀ W, Below X.heap.size X W → W.cell? ⟨w.heap.size, 0, none⟩ = some (.int .i64 nodes) ∧ W.cell? ⟨w.heap.size, 1, none⟩ = some (.int .i64 slots) ∧ W.cell? ⟨w.heap.size, 2, none⟩ = some (.slice ao nf cp) :=
    fun W h => ⟨(BX.out.1.old h).cell rfl, (BX.out.1.old h).cell rfl, (BX.out.1.old h).cell rfl⟩
  have hXz : w.heap.size ≤ X.heap.size := Nat.le_of_lt BX.out.1.lt
  have H : ∀ W, Below X.heap.size X W → Hid (Rf W (.slice ao nf cp) nf F ∧ RdL W (.slice lo n cl) n L ∧ LFew n L) := fun W hb => ⟨h.later (BX.out.2.2.trans (hb.mono hXz)), hl.later (BX.out.2.2.trans (hb.mono hXz)), hw⟩
  have hn20 : n ≤ 1048576 := hw.cn
  clear h hl hw
  obtain ⟨c, hc⟩ : ∃ c, c = Nt.lfault nodes slots nf F n L := ⟨_, rfl⟩
  have HC : Hid (c = Nt.lfault nodes slots nf F n L) := hc
  have HCC : Hid (C = dcode nodes slots nf F n L id) := hC
  clear hc hC
  have HD : Hid (LBd n L) := hd
  clear hd
  go_enter Try.func49, Try.ntmps49
  go_wp2_with fail
  rw [← hX]
  clear hX
  obtain ⟨x0, x1, x2⟩ := CX X (Below.refl _ _)
  go_wp2_with fail
  refine (iBook_any (H _ (Below.refl _ _)).out.1 (H _ (Below.refl _ _)).out.2.1 hcp hf (H _ (Below.refl _ _)).out.2.2 HD.out).mono ?_
  rintro e w1 ⟨hr, hb1⟩
  rw [← HC.out] at hr
  clear x0 x1 x2
  rcases hr with ⟨hz, rfl⟩ | ⟨hz, b, q, rfl, hb0, hq, hbk⟩
  · have hzb : (c != 0) = true := by simpa using hz
    obtain ⟨Z, hZ⟩ : ∃ Z, Z = w1.alloc (.cells #[.map none] 108) := ⟨_, rfl⟩
    have HZ : Hid (Below X.heap.size X Z) := by rw [hZ]; exact hb1.alloc hb1.size _
    go_upto_region 2 with fail
    rw [← hZ]
    clear hZ hb1
    have HCv : Hid (C = c) := by show C = c; rw [HCC.out, dn_net (by rw [← HC.out]; exact hz), HC.out]
    have HCn : Hid (C ≠ 0) := by rw [HCv.out]; exact hz
    have hbu : Below X.heap.size X Z := HZ.out
    have hB := BX.out.2.1.old hbu
    have y0 := hB.cell (j := 0) rfl
    have y1 := hB.cell (j := 1) rfl
    have f0 := hB.frozen
    have hlt := hB.lt
    have HB : Hid (Below X.heap.size X Z) := hbu
    clear hB hbu hz
    go_wp2
    refine bodyPost_ret (v := .agg #[.int .i64 c, .slice none 0 0]) (by simp [results, Try.results49, go_sem, y0, y1]) rfl ⟨_, by rw [HCv.out], Or.inl ⟨HCn.out, rfl⟩, ?_⟩
    exact BX.out.2.2.trans (Below.setCell (Below.setCell (HB.out.mono hXz) (by simp) _) (by simp) _)
  · have hlf : Nt.lfault nodes slots nf F n L = 0 := by rw [← HC.out]; exact hz
    have hgood := lf_good hlf
    have HG : Hid (Nt.Good nodes slots nf F ∧ n ≤ 40 ∧ Nt.AllOk nodes slots nf F n L ∧ Nt.lfault nodes slots nf F n L = 0) := ⟨hgood.1, hgood.2.1, hgood.2.2, hlf⟩
    obtain ⟨Z, hZ⟩ : ∃ Z, Z = w1.alloc (.cells #[.map (some b)] 108) := ⟨_, rfl⟩
    have HZ : Hid (Below X.heap.size X Z ∧ Blk Z w1.heap.size #[.map (some b)] 108 ∧ Book Z b q (Nt.bk L n) ∧ X.heap.size ≤ b) := by rw [hZ]; exact ⟨hb1.alloc hb1.size _, Blk.new rfl, hbk.later ((Below.refl _ _).alloc (Nat.le_refl _) _), hb0⟩
    go_upto_region 2 with fail
    rw [← hZ]
    clear hZ hb1 hgood hlf hz hb0 hq hbk
    go_wp2_with fail
    refine (iAt_any id (H _ HZ.out.1).out.2.1 hn20).mono ?_
    rintro e w2 ⟨rfl, hb2⟩
    have H2 : Hid (Below X.heap.size X w2 ∧ Blk w2 w1.heap.size #[.map (some b)] 108 ∧ Book w2 b q (Nt.bk L n)) := ⟨HZ.out.1.trans (hb2.mono HZ.out.1.size), HZ.out.2.1.old hb2, HZ.out.2.2.1.later hb2⟩
    clear hb2
    by_cases hk : fnd L id n = -1
    · rw [hk]
      have HCv : Hid (C = 4) := by show C = 4; rw [HCC.out]; exact dn_none HG.out.2.2.2 hk
      have HCn : Hid (C ≠ 0) := by rw [HCv.out]; show (4 : Int) ≠ 0; omega
      have hbu : Below X.heap.size X w2 := H2.out.1
      have hB := BX.out.2.1.old hbu
      have y0 := hB.cell (j := 0) rfl
      have y1 := hB.cell (j := 1) rfl
      have f0 := hB.frozen
      have hlt := hB.lt
      have HB : Hid (Below X.heap.size X w2) := hbu
      clear hB hbu hk
      go_wp2
      refine bodyPost_ret (v := .agg #[.int .i64 4, .slice none 0 0]) (by simp [results, Try.results49, go_sem, y0, y1]) rfl ⟨_, by rw [HCv.out], Or.inl ⟨HCn.out, rfl⟩, ?_⟩
      exact BX.out.2.2.trans (Below.setCell (Below.setCell (HB.out.mono hXz) (by simp) _) (by simp) _)
    · obtain ⟨N, t, rfl, ht, hft, hid⟩ := found HG.out.2.2.1 hk
      have HC0 : Hid (C = 0) := by show C = 0; rw [HCC.out]; exact dn_ok HG.out.2.2.2 hk
      have HT : Hid (fnd L id (N + 1) = (t : Int)) := hft
      have HFn : Hid (∀ k, k < N + 1 → Fine (L k) (L k).np) := fun i hi => ok_np HG.out.1 HG.out.2.2.1 hi (HD.out i hi).2.2.2.2.2
      rw [hft]
      have ht0 : decide ((t : Int) < 0) = false := by simp
      have htI : (t : Int) < N + 1 := by omega
      have htN : (N : Int) + 1 ≤ 1048576 := by omega
      clear hk hft hid
      go_upto_region 7 with fail
      have hRd := (H w2 H2.out.1).out.2.1
      obtain ⟨lb, lf, po, pc, hlo, hc, hp⟩ := hRd.at ht
      subst hlo
      obtain ⟨x, hx⟩ : ∃ x, x = L t := ⟨_, rfl⟩
      obtain ⟨m, hm⟩ : ∃ m, m = (L t).np := ⟨_, rfl⟩
      have hfx := HFn.out t ht
      rw [← hm, ← hx] at hc hp hfx
      have hmap := H2.out.2.2.map
      have c0 : ∀ W, Tk b q x (Nt.bk L (N + 1)) w2 W → W.cell? ⟨lb, lf + t * 6, none⟩ = some (.int .i64 x.id) := fun W hW => hW.1.cell (hc 0 (by omega)) (by exact ne_book H2.out.2.2 (hc 0 (by omega)))
      have c1 : ∀ W, Tk b q x (Nt.bk L (N + 1)) w2 W → W.cell? ⟨lb, lf + t * 6 + 1, none⟩ = some (.int .i64 x.fr) := fun W hW => hW.1.cell (hc 1 (by omega)) (by exact ne_book H2.out.2.2 (hc 1 (by omega)))
      have c2 : ∀ W, Tk b q x (Nt.bk L (N + 1)) w2 W → W.cell? ⟨lb, lf + t * 6 + 2, none⟩ = some (.int .i64 x.tt) := fun W hW => hW.1.cell (hc 2 (by omega)) (by exact ne_book H2.out.2.2 (hc 2 (by omega)))
      have c3 : ∀ W, Tk b q x (Nt.bk L (N + 1)) w2 W → W.cell? ⟨lb, lf + t * 6 + 3, none⟩ = some (.slice po m pc) := fun W hW => hW.1.cell (hc 3 (by omega)) (by exact ne_book H2.out.2.2 (hc 3 (by omega)))
      have c4 : ∀ W, Tk b q x (Nt.bk L (N + 1)) w2 W → W.cell? ⟨lb, lf + t * 6 + 4, none⟩ = some (.int .i64 x.fi) := fun W hW => hW.1.cell (hc 4 (by omega)) (by exact ne_book H2.out.2.2 (hc 4 (by omega)))
      have c5 : ∀ W, Tk b q x (Nt.bk L (N + 1)) w2 W → W.cell? ⟨lb, lf + t * 6 + 5, none⟩ = some (.int .i64 x.wd) := fun W hW => hW.1.cell (hc 5 (by omega)) (by exact ne_book H2.out.2.2 (hc 5 (by omega)))
      have cq : ∀ W, Tk b q x (Nt.bk L (N + 1)) w2 W → W.cell? ⟨w1.heap.size, 0, none⟩ = some (.map (some b)) := fun W hW => hW.1.cell (H2.out.2.1.cell (j := 0) (v := .map (some b)) rfl) (by exact ne_book H2.out.2.2 (H2.out.2.1.cell (j := 0) (v := .map (some b)) rfl))
      have HCl : ∀ W, Tk b q x (Nt.bk L (N + 1)) w2 W → Calls Try.prog 93 #[.map (some b), .agg #[.int .i64 x.id, .int .i64 x.fr, .int .i64 x.tt, .slice po m pc, .int .i64 x.fi, .int .i64 x.wd]] W fun e w' => e = .returned (.tuple #[]) ∧ Book w' b q (less x (Nt.bk L (N + 1))) ∧ Tk b q x (Nt.bk L (N + 1)) w2 w' := fun W hW => tkc_any x hW (hW.1.rdrow hp hmap) hfx
      have hS0 : Tk b q x (Nt.bk L (N + 1)) w2 w2 := Tk.start H2.out.2.2
      have HX : Hid (x = L t ∧ m = (L t).np) := ⟨hx, hm⟩
      clear hc hp hfx hx hm hRd
      go_region_held3 (fun W => Tk b q x (Nt.bk L (N + 1)) w2 W) (first | assumption | (apply Tk.drew; assumption)) (first | (go_at_call 93; refine Calls.mono (HCl _ (by first | assumption | (apply Tk.drew; assumption))) ?_; rintro e w3 ⟨rfl, hbk3, hS3⟩))
      have H3 : Hid (Book w3 b q (less (L t) (Nt.bk L (N + 1))) ∧ Onl b w2 w3) := by rw [← HX.out.1]; exact ⟨hbk3, hS3.1⟩
      clear c0 c1 c2 c3 c4 c5 cq HCl hS0 hbk3 hS3
      have hRd3 : Hid (RdL w3 (.slice (some ⟨lb, lf, none⟩) (N + 1) cl) (N + 1) L ∧ LFew (N + 1) L) := ⟨H3.out.2.rdl (H w2 H2.out.1).out.2.1 H2.out.2.2.map, (H w2 H2.out.1).out.2.2⟩
      go_wp2_with fail
      refine (copyL_any hRd3.out.1 (Nat.succ_pos N) hRd3.out.2 (fun i hi => (HFn.out i hi).m1)).mono ?_
      rintro e w4 ⟨g, cg, rfl, hcg, how, hb4⟩
      have hqb : w1.heap.size ≠ b := ne_book H2.out.2.2 (H2.out.2.1.cell (j := 0) (v := .map (some b)) rfl)
      have hz2 : w2.heap.size ≤ w3.heap.size := H3.out.2.size
      have hz3 : w3.heap.size ≤ w4.heap.size := hb4.size
      have hXb : X.heap.size ≤ b := HZ.out.2.2.2
      have hB1 := BX.out.2.1.lt
      have hX2 := H2.out.1.size
      have B3 : Below X.heap.size X w3 := H2.out.1.trans (H3.out.2.below.mono hXb)
      have H4 : Hid (OwLs w3.heap.size w4.heap.size w4 g (N + 1) L ∧ Gone b w1.heap.size q (less (L t) (Nt.bk L (N + 1))) (N + 1) t L w4 ∧ Below X.heap.size X w4 ∧ w3.heap.size ≤ g ∧ w1.heap.size ≠ g ∧ b ≠ g) := by
        have hc3 : w3.cell? ⟨w1.heap.size, 0, none⟩ = some (.map (some b)) := H3.out.2.cell (H2.out.2.1.cell (j := 0) rfl) hqb
        have hq3 := World.block_lt_of_cell? _ _ hc3
        have hb3 := H3.out.1.lt
        have hg : w3.heap.size ≤ g := by obtain ⟨_, _, h1, _⟩ := how; exact h1
        refine ⟨how, ⟨H3.out.1.later hb4, kold hb4 hc3, HFn.out, gone_says HG.out.2.2.1 ht HFn.out⟩, B3.trans (hb4.mono (by omega)), hg, ?_, by omega⟩
        have : w1.heap.size < w3.heap.size := hq3
        omega
      have hcg2 : N + 1 ≤ cg := hcg
      clear how hb4 hcg B3
      go_wp2_with fail
      refine (delF_any H4.out.1 (Nat.le_refl _) H4.out.2.1 ht hcg2 hn20 H4.out.2.2.2.2.1 H4.out.2.2.2.2.2).mono ?_
      rintro e w5 ⟨rfl, how5, ho5⟩
      have hg3 := H4.out.2.2.2.1
      have hB := ho5.blk (BX.out.2.1.old H4.out.2.2.1) (by omega)
      have y0 := hB.cell (j := 0) (v := .int .i64 0) rfl
      have y1 := hB.cell (j := 1) (v := .slice none 0 0) rfl
      have f0 := hB.frozen
      have hlt := hB.lt
      have hX4 := H4.out.2.2.1.size
      have HM : Hid (OwLs w3.heap.size w4.heap.size w5 g N (fun i => L (sk t i)) ∧ Below X.heap.size X w5 ∧ w4.heap.size ≤ w5.heap.size) := ⟨how5, H4.out.2.2.1.trans (ho5.below.mono (by omega)), ho5.size⟩
      clear how5 ho5 hB hX4
      go_wp2
      have hT : (fnd L id (N + 1)).toNat = t := by rw [HT.out]; simp
      refine bodyPost_ret (v := .agg #[.int .i64 0, .slice (some ⟨g, 0, none⟩) N cg]) (by simp [results, Try.results49, go_sem, y0, y1]) rfl ⟨.slice (some ⟨g, 0, none⟩) N cg, by rw [HC0.out], Or.inr ⟨HC0.out, g, cg, rfl, ?_⟩, ?_⟩
      · rw [hT]
        have hs5 := HM.out.2.2
        refine OwLs.wide (lo := w3.heap.size) (hi := w4.heap.size) (HM.out.1.keep fun k h1 h2 => (Below.heap_setCell _ _ _ _ (by show k ≠ w.heap.size + 1; omega)).trans (Below.heap_setCell _ _ _ _ (by show k ≠ w.heap.size + 1; omega))) (by omega) (by simp; omega)
      · exact BX.out.2.2.trans (Below.setCell (Below.setCell (HM.out.2.1.mono hXz) (by simp) _) (by simp) _)
end Go.Proofs.Ytnkjieindcdimaa
