/- The free slots on a path, in the program: contract. -/
import Derived.Test.YtnkjieindcdimaaBr
import Derived.Test.YtnkjieindcdimaaRp
import Derived.Test.YtnkjieindcdimaaSx
namespace Go.Proofs.Ytnkjieindcdimaa
open Go.RowKit Go.Maps
set_option linter.unusedVariables false
set_option linter.unusedSimpArgs false
/-- 1: no light has slot s on a fibre of the path. -/
def fre (B : Int → Int → Int) (p : Nat → Int) (np s : Nat) : Int := if Nt.any (fun k => B (p k) (s : Int) != 0) np = true then 0 else 1
/-- What has been found so far. -/
def FVal (B : Int → Int → Int) (p : Nat → Int) (np S : Nat) (left : Lit → Bool) (v : Nat → Int) : Prop :=
  ∀ s : Nat, s < S → (v s = 0 ∧ ∃ f, Nt.has p np f = true ∧ B f s ≠ 0) ∨ (v s = 1 ∧ ∀ f, Nt.has p np f = true → B f s ≠ 0 → left (kf f s) = true)
theorem FVal.fin {B : Int → Int → Int} {p : Nat → Int} {np S : Nat} {left : Lit → Bool} {v : Nat → Int} (h : FVal B p np S left v) (hl : ∀ z, left z = false) {s : Nat} (hs : s < S) : v s = fre B p np s := by
  unfold fre
  rcases h s hs with ⟨e, f, hf, hb⟩ | ⟨e, hr⟩
  · obtain ⟨k, hk, rfl⟩ := Nt.has_iff.1 hf
    rw [e, if_pos (Nt.any_hit hk (by simpa using hb))]
  · rw [e, if_neg]
    intro ha
    obtain ⟨k, hk, hb⟩ := Nt.any_iff.1 ha
    have := hr (p k) (Nt.has_iff.2 ⟨k, hk, rfl⟩) (by simpa using hb)
    rw [hl] at this
    cases this
theorem FVal.step {B : Int → Int → Int} {p : Nat → Int} {np S : Nat} {left : Lit → Bool} {v : Nat → Int} (h : FVal B p np S left v) (hB : ∀ f s, B f s ≠ 0 → W64 f ∧ W64 s) {f : Int} {s : Nat} (wf : W64 f) (ws : W64 (s : Int)) (hb : B f s ≠ 0) {on : Bool} (hon : Nt.has p np f = on) :
    FVal B p np S (fun z => left z && !z.sameKey (kf f s)) (fun t => if on = true ∧ t = s then 0 else v t) := by
  intro t ht
  show ((if on = true ∧ t = s then 0 else v t) = 0 ∧ _) ∨ ((if on = true ∧ t = s then 0 else v t) = 1 ∧ _)
  by_cases e : on = true ∧ t = s
  · obtain ⟨e1, rfl⟩ := e
    exact Or.inl ⟨by simp [e1], f, by rw [hon, e1], hb⟩
  · simp only [if_neg e]
    rcases h t ht with h | ⟨h1, h2⟩
    · exact Or.inl h
    · refine Or.inr ⟨h1, fun f' hf' hb' => ?_⟩
      have hne : kf f' (t : Int) ≠ kf f s := fun hk => by
        obtain ⟨w1, w2⟩ := hB f' t hb'
        obtain ⟨rfl, e2⟩ := kf_inj w1 w2 wf ws hk
        exact e ⟨by rw [← hon]; exact hf', by omega⟩
      rw [h2 f' hf' hb', sameKey_ne hne]
      rfl
theorem seg_on (w : World) : Seg (w.alloc (.cells #[.bool false, .bool false, .bool false, .bool false, .bool false, .bool false, .bool false, .bool false, .bool false, .bool false, .bool false, .bool false, .bool false, .bool false] 142)) w.heap.size 142 0 14 (fun _ => .bool false) := by
  refine ⟨#[.bool false, .bool false, .bool false, .bool false, .bool false, .bool false, .bool false, .bool false, .bool false, .bool false, .bool false, .bool false, .bool false, .bool false], by show (w.heap.push _)[w.heap.size]? = _; simp, fun i hi => ?_⟩
  match i, hi with
  | 0, _ => rfl
  | 1, _ => rfl
  | 2, _ => rfl
  | 3, _ => rfl
  | 4, _ => rfl
  | 5, _ => rfl
  | 6, _ => rfl
  | 7, _ => rfl
  | 8, _ => rfl
  | 9, _ => rfl
  | 10, _ => rfl
  | 11, _ => rfl
  | 12, _ => rfl
  | 13, _ => rfl
set_option maxRecDepth 20000 in
set_option maxHeartbeats 3200000 in
theorem freeOn_any {w : World} {b q : Nat} {B : Int → Int → Int} {ao bo : Option Addr} {nf cp np cq S : Nat} {nodes : Int} {p : Nat → Int} (hB : Book w b q B) (hBd : ∀ f s, B f s ≠ 0 → 0 ≤ f ∧ f < 14 ∧ 0 ≤ s ∧ s < (S : Int)) (hp : RdRow w (.slice bo np cq) np p) (hp14 : ∀ i, i < np → 0 ≤ p i ∧ p i < 14) (hnp : np ≤ 1048576) (hS1 : 1 ≤ S) (hS64 : S ≤ 64) :
    Calls Try.prog 86 #[.map (some b), .agg #[.int .i64 nodes, .int .i64 S, .slice ao nf cp], .slice bo np cq] w fun e w' => ∃ g, e = .returned (.slice (some ⟨g, 0, none⟩) S S) ∧ w.heap.size ≤ g ∧ g < w'.heap.size ∧ Seg w' g 2 0 S (fun s => .int .i64 (fre B p np s)) ∧ Below w.heap.size w w' := by
  have hnI : (np : Int) ≤ 1048576 := by omega
  have hSI : (S : Int) ≤ 64 := by omega
  obtain ⟨Z, hZ⟩ : ∃ Z, Z = ((w.alloc (.cells #[.int .i64 nodes, .int .i64 S, .slice ao nf cp] 29)).alloc (.cells #[.bool false, .bool false, .bool false, .bool false, .bool false, .bool false, .bool false, .bool false, .bool false, .bool false, .bool false, .bool false, .bool false, .bool false] 142)) := ⟨_, rfl⟩
  have BZ : Hid (Blk Z w.heap.size #[.int .i64 nodes, .int .i64 S, .slice ao nf cp] 29 ∧ Seg Z (w.heap.size + 1) 142 0 14 (fun j => .bool (Nt.has p 0 (j : Int))) ∧ Below w.heap.size w Z ∧ Z.heap.size = w.heap.size + 1 + 1) := by
    rw [hZ]
    exact ⟨(Blk.new rfl).alloc _, by simpa [Nt.has, Nt.any] using seg_on (w.alloc (.cells #[.int .i64 nodes, .int .i64 S, .slice ao nf cp] 29)), ((Below.refl _ _).alloc (Nat.le_refl _) _).alloc (by simp) _, by simp⟩
  have HM : ∀ W, Below (w.heap.size + 1) Z W → Hid (RdRow W (.slice bo np cq) np p ∧ w.heap.size + 1 < W.heap.size ∧ Blk W w.heap.size #[.int .i64 nodes, .int .i64 S, .slice ao nf cp] 29 ∧ Book W b q B ∧ Below w.heap.size w W) := fun W hb => by
    have hw := BZ.out.2.2.1.trans (hb.mono (Nat.le_succ _))
    exact ⟨hp.later hw, by have := hb.size; have := BZ.out.2.2.2; omega, (hb.block _ (Nat.lt_succ_self _)).trans BZ.out.1, hB.later hw, hw⟩
  have HP : Hid ((∀ i, i < np → 0 ≤ p i ∧ p i < 14) ∧ (∀ f s, B f s ≠ 0 → 0 ≤ f ∧ f < 14 ∧ 0 ≤ s ∧ s < (S : Int)) ∧ b < w.heap.size) := ⟨hp14, hBd, hB.lt⟩
  clear hB hBd hp hp14
  go_enter Try.func86, Try.ntmps86
  go_wp2_with fail
  rw [← hZ]
  clear hZ
  go_loopw [14] (fun i wr => ∃ k : Nat, k ≤ np ∧ i = .int .i64 k ∧ Hid (Below (w.heap.size + 1) Z wr) ∧ Hid (Seg wr (w.heap.size + 1) 142 0 14 (fun j => .bool (Nt.has p k (j : Int))))) (fun i _ => np - (intOf i).toNat)
  case atStart => exact ⟨0, Nat.zero_le _, rfl, Below.refl _ _, BZ.out.2.1⟩
  case round =>
    obtain ⟨k, hk, rfl, HB, HW⟩ := hrel
    by_cases hkn : k < np
    · obtain ⟨pb, pf, rfl, hc⟩ := (HM wr HB.out).out.1.at hkn
      have hp0 := HP.out.1 k hkn
      obtain ⟨m, hm⟩ : ∃ m : Nat, p k = (m : Int) := ⟨(p k).toNat, by omega⟩
      have hm14 : m < 14 := by omega
      rw [hm] at hc
      have HPm : Hid (p k = (m : Int)) := hm
      clear hm hp0
      have a0 := HW.out.cell hm14
      have az := HW.out.frozen m
      have al := HW.out.lt
      rw [Nat.zero_add] at a0
      have HN : Hid (Seg (wr.setCell ⟨w.heap.size + 1, m, none⟩ (.bool true)) (w.heap.size + 1) 142 0 14 (fun j => .bool (Nt.has p (k + 1) (j : Int))) ∧ Below (w.heap.size + 1) Z (wr.setCell ⟨w.heap.size + 1, m, none⟩ (.bool true))) := by
        refine ⟨?_, HB.out.setCell (by simp) _⟩
        have := HW.out.set m hm14 (.bool true)
        rw [Nat.zero_add] at this
        refine this.congr fun j hj => ?_
        have hnx : Nt.has p (k + 1) (j : Int) = (Nt.has p k (j : Int) || (p k == (j : Int))) := rfl
        rw [hnx, HPm.out]
        by_cases e : j = m
        · subst e; simp
        · have e2 : ((m : Int) == (j : Int)) = false := by simp; omega
          rw [if_neg e, e2, Bool.or_false]
      go_wp2
      go_roundw
      case rel => exact ⟨k + 1, by omega, by simp, HN.out.2, HN.out.1⟩
      case measure => simp [intOf]; omega
    · obtain rfl : np = k := by omega
      obtain ⟨V, hV⟩ : ∃ V, V = wr.alloc (.cells #[.int .i64 1] 2) := ⟨_, rfl⟩
      have HVV : Hid (Blk V wr.heap.size #[.int .i64 1] 2 ∧ Seg V (w.heap.size + 1) 142 0 14 (fun j => .bool (Nt.has p np (j : Int))) ∧ Blk V w.heap.size #[.int .i64 nodes, .int .i64 S, .slice ao nf cp] 29 ∧ Book V b q B ∧ Below w.heap.size w V) := by
        have h1 := (HM wr HB.out).out
        have hbb : Below wr.heap.size wr (wr.alloc (.cells #[.int .i64 1] 2)) := (Below.refl _ _).alloc (Nat.le_refl _) _
        rw [hV]
        exact ⟨Blk.new rfl, HW.out.of_block (hbb.block _ HW.out.lt), h1.2.2.1.old hbb, h1.2.2.2.1.later hbb, h1.2.2.2.2.trans (hbb.mono h1.2.2.2.2.size)⟩
      have x1 : V.cell? ⟨w.heap.size, 1, none⟩ = some (.int .i64 S) := HVV.out.2.2.1.cell rfl
      have x1' : wr.cell? ⟨w.heap.size, 1, none⟩ = some (.int .i64 S) := (HM wr HB.out).out.2.2.1.cell rfl
      have y1 : V.cell? ⟨wr.heap.size, 0, none⟩ = some (.int .i64 1) := HVV.out.1.cell rfl
      have hlt0 : w.heap.size < wr.heap.size := (HM wr HB.out).out.2.2.1.lt
      go_wp2_with fail
      rw [← hV]
      clear hV x1' hlt0
      refine (repeat_any _ S _ y1 (by omega) hS64).mono ?_
      rintro e w2 ⟨rfl, hs2, hb2⟩
      obtain ⟨g, hg⟩ : ∃ g, g = V.heap.size := ⟨_, rfl⟩
      obtain ⟨D, d1, d2, d3⟩ := HVV.out.2.2.2.1.later hb2
      have H2 : Hid (Seg w2 g 2 0 S (fun _ => .int .i64 1) ∧ Seg w2 (w.heap.size + 1) 142 0 14 (fun j => .bool (Nt.has p np (j : Int))) ∧ Below w.heap.size w w2 ∧ w.heap.size + 1 < g ∧ g < w2.heap.size ∧ (∀ f s, W64 f → W64 s → has D (kf f s) = decide (B f s ≠ 0)) ∧ b < w.heap.size) := by
        rw [hg]
        exact ⟨hs2, HVV.out.2.1.of_block (hb2.block _ HVV.out.2.1.lt), HVV.out.2.2.2.2.trans (hb2.mono HVV.out.2.2.2.2.size), HVV.out.2.1.lt, hs2.lt, fun f s wf ws => (d3 f s wf ws).2, HP.out.2.2⟩
      have HD1 : Hid (w2.ownsMap Try.prog 115 (plainElem Try.prog 2) b q D) := d1
      rw [← hg]
      clear hs2 hb2 d1 d2 d3 x1 y1 hg
      go_wp2_with (first | (at_range; refine wpList_range_own _ rfl _ 108 rfl 115 2 law115 Try.underlying108 _ b q D rfl HD1.out ?_; intro w0 hrg0 hg0 hs0))
      go_frame
      obtain ⟨r, hr⟩ : ∃ r, r = w2.heap.size := ⟨_, rfl⟩
      rw [← hr] at hrg0 ⊢
      have H0 : Hid (w0.ranges Try.prog 115 (plainElem Try.prog 2) b r q D (has D) (Maps.size D) ∧ (∀ z, (has D) z = true → has D z = true) ∧ Seg w0 g 2 0 S (fun s => .int .i64 ((fun _ => 1) s)) ∧ FVal B p np S (has D) (fun _ => 1) ∧ Seg w0 (w.heap.size + 1) 142 0 14 (fun j => .bool (Nt.has p np (j : Int))) ∧ Below w.heap.size w w0 ∧ g < w0.heap.size) := by
        obtain ⟨a1, a2, a3, a4, a5, a6, a7⟩ := H2.out
        have hb0 : Below w2.heap.size w2 w0 := (Below.refl _ _).grown hg0 (Nat.le_refl _) (fun k e => by cases e)
        refine ⟨hrg0, fun z h => h, a1.of_block (hb0.block _ a5), ?_, a2.of_block (hb0.block _ a2.lt), a3.trans (hb0.mono a3.size), by have := hb0.size; omega⟩
        intro s hs
        refine Or.inr ⟨rfl, fun f hf hb => ?_⟩
        have hbd := HP.out.2.1 f s hb
        rw [a6 f s (w64_small hbd.1 (by omega)) (w64_small hbd.2.2.1 (by omega))]
        simpa using hb
      clear hrg0 hg0 hs0
      have hrg2 : r ≠ g ∧ r ≠ w.heap.size + 1 := by have := H2.out.2.2.2.1; have := H2.out.2.2.2.2.1; omega
      have HRG : Hid (r ≠ g ∧ r ≠ w.heap.size + 1 ∧ w.heap.size ≤ r) := ⟨hrg2.1, hrg2.2, by rw [hr]; exact H2.out.2.2.1.size⟩
      clear hrg2 hr
      go_loopw [11] (fun _ wx => ∃ (left : Lit → Bool) (cnt : Nat) (v : Nat → Int), Hid (wx.ranges Try.prog 115 (plainElem Try.prog 2) b r q D left cnt) ∧ Hid ((∀ z, left z = true → has D z = true) ∧ Seg wx g 2 0 S (fun s => .int .i64 (v s)) ∧ FVal B p np S left v ∧ Seg wx (w.heap.size + 1) 142 0 14 (fun j => .bool (Nt.has p np (j : Int))) ∧ Below w.heap.size w wx ∧ g < wx.heap.size)) (fun _ wx => wx.rangeLeft b r)
      case atStart => exact ⟨_, _, _, H0.out.1, H0.out.2⟩
      case round =>
        obtain ⟨left, cnt, v, HR, HI⟩ := hrel
        go_wp2_with (first | (at_next; refine wpList_next_ranges (α := Int × Int) (β := Int) _ rfl _ rfl 115 law115 (plainElem Try.prog 2) (fun x => .agg #[.int .i64 x.1, .int .i64 x.2]) (fun c => .int .i64 c) (fun key kl hk => by obtain ⟨a, c, e, _⟩ := key115_inv hk; exact ⟨(a, c), e⟩) (fun v y hv => by obtain ⟨c, e, _⟩ := plainElem_int_inv Try.underlying2 hv; exact ⟨c, e⟩) b r q D left cnt rfl HR.out ?_ ?_))
        · intro hc0 hl0
          have HF : Hid (Seg wr g 2 0 S (fun s => .int .i64 (fre B p np s)) ∧ Below w.heap.size w wr ∧ g < wr.heap.size ∧ w.heap.size ≤ g) := by
            obtain ⟨i1, i2, i3, i4, i5, i6⟩ := HI.out
            exact ⟨i2.congr fun s hs => by rw [i3.fin hl0 hs], i5, i6, by have := H2.out.2.2.2.1; omega⟩
          clear hc0 hl0
          go_wp2
          go_ret
          exact ⟨g, rfl, HF.out.2.2.2, HF.out.2.2.1, HF.out.1, HF.out.2.1⟩
        · intro f s c kl yd yp w1 cnt1 hkey hlk hv hat hrg1 hlt hg1 hs1 hen
          obtain ⟨a', c', e', wf, ws, rfl⟩ := key115_inv hkey
          simp only [Value.agg.injEq, Array.mk.injEq, List.cons.injEq, Value.int.injEq, true_and, and_true] at e'
          obtain ⟨rfl, rfl⟩ := e'
          have hbne : B f s ≠ 0 := by
            have := H2.out.2.2.2.2.2.1 f s wf ws
            rw [HI.out.1 _ hlk] at this
            simpa using this.symm
          have hbd := HP.out.2.1 f s hbne
          obtain ⟨f', hf'⟩ : ∃ f' : Nat, f = (f' : Int) := ⟨f.toNat, by omega⟩
          obtain ⟨s', hs'⟩ : ∃ s' : Nat, s = (s' : Int) := ⟨s.toNat, by omega⟩
          subst hf'
          subst hs'
          have hf14 : f' < 14 := by omega
          have hsS : s' < S := by omega
          have hsI : (s' : Int) < S := by omega
          have H3 : Hid (w1.ranges Try.prog 115 (plainElem Try.prog 2) b r q D (fun z => left z && !z.sameKey (kf f' s')) cnt1 ∧ cnt1 < cnt ∧ W64 (f' : Int) ∧ W64 (s' : Int) ∧ B f' s' ≠ 0 ∧ Seg w1 g 2 0 S (fun s => .int .i64 (v s)) ∧ Seg w1 (w.heap.size + 1) 142 0 14 (fun j => .bool (Nt.has p np (j : Int))) ∧ Below w.heap.size w w1 ∧ g < w1.heap.size) := by
            obtain ⟨i1, i2, i3, i4, i5, i6⟩ := HI.out
            obtain ⟨r1, r2, r3⟩ := HRG.out
            exact ⟨hrg1, hlt, wf, ws, hbne, i2.of_block (hg1.block g i6 (by simpa using fun e => r1 e.symm)), i4.of_block (hg1.block _ i4.lt (by simpa using fun e => r2 e.symm)), i5.grown hg1 i5.size (fun k e => by cases e; exact r3), by have := hg1.size; omega⟩
          obtain ⟨Y, hY⟩ : ∃ Y, Y = w1.alloc (.cells #[.int .i64 f', .int .i64 s'] 115) := ⟨_, rfl⟩
          have HYb : Hid (Below w1.heap.size w1 Y ∧ Blk Y w1.heap.size #[.int .i64 f', .int .i64 s'] 115 ∧ Y.ranges Try.prog 115 (plainElem Try.prog 2) b r q D (fun z => left z && !z.sameKey (kf f' s')) cnt1) := by rw [hY]; exact ⟨(Below.refl _ _).alloc (Nat.le_refl _) _, Blk.new rfl, H3.out.1.alloc _⟩
          clear hkey hlk hv hat hrg1 hlt hg1 hs1 wf ws hbne hbd
          go_upto_region 11 with fail
          rw [← hY]
          clear hY hen
          have y0 : Y.cell? ⟨w1.heap.size, 0, none⟩ = some (.int .i64 f') := HYb.out.2.1.cell rfl
          have y1 : Y.cell? ⟨w1.heap.size, 1, none⟩ = some (.int .i64 s') := HYb.out.2.1.cell rfl
          obtain ⟨on, hon⟩ : ∃ on, on = Nt.has p np (f' : Int) := ⟨_, rfl⟩
          have o0 : Y.cell? ⟨w.heap.size + 1, f', none⟩ = some (.bool on) := by
            have := (H3.out.2.2.2.2.2.2.1.of_block (HYb.out.1.block _ H3.out.2.2.2.2.2.2.1.lt)).cell hf14
            rw [Nat.zero_add, ← hon] at this
            exact this
          have HON : Hid (Nt.has p np (f' : Int) = on) := hon.symm
          have g0 : Y.cell? ⟨g, s', none⟩ = some (.int .i64 (v s')) := by
            have := (H3.out.2.2.2.2.2.1.of_block (HYb.out.1.block _ H3.out.2.2.2.2.2.1.lt)).cell hsS
            rw [Nat.zero_add] at this
            exact this
          have gz : Y.frozen? ⟨g, s', none⟩ = false := (H3.out.2.2.2.2.2.1.of_block (HYb.out.1.block _ H3.out.2.2.2.2.2.1.lt)).frozen s'
          have hgne : w.heap.size + 1 ≠ g := by have := H2.out.2.2.2.1; omega
          have HST : Hid (FVal B p np S (fun z => left z && !z.sameKey (kf f' s')) (fun t => if on = true ∧ t = s' then 0 else v t)) := HI.out.2.2.1.step (fun f s hb => by have := HP.out.2.1 f s hb; exact ⟨w64_small this.1 (by omega), w64_small this.2.2.1 (by omega)⟩) H3.out.2.2.1 H3.out.2.2.2.1 H3.out.2.2.2.2.1 HON.out
          have HL1 : Hid (∀ z, (left z && !z.sameKey (kf f' s')) = true → has D z = true) := fun z hz => HI.out.1 z (by simp at hz; exact hz.1)
          clear hon
          have HYR : Hid (Y.ranges Try.prog 115 (plainElem Try.prog 2) b r q D (fun z => left z && !z.sameKey (kf f' s')) cnt1 ∧ Seg Y g 2 0 S (fun s => .int .i64 (v s)) ∧ Seg Y (w.heap.size + 1) 142 0 14 (fun j => .bool (Nt.has p np (j : Int))) ∧ Below w.heap.size w Y ∧ g < Y.heap.size) := by
            obtain ⟨j1, j2, j3, j4, j5, j6, j7, j8, j9⟩ := H3.out
            exact ⟨HYb.out.2.2, j6.of_block (HYb.out.1.block _ j6.lt), j7.of_block (HYb.out.1.block _ j7.lt), j8.trans (HYb.out.1.mono j8.size), Nat.lt_of_lt_of_le j9 HYb.out.1.size⟩
          have hcnt : Hid (cnt1 < cnt) := H3.out.2.1
          cases on with
          | true =>
            have HN : Hid ((Y.setCell ⟨g, s', none⟩ (.int .i64 0)).ranges Try.prog 115 (plainElem Try.prog 2) b r q D (fun z => left z && !z.sameKey (kf f' s')) cnt1 ∧ (∀ z, (fun z => left z && !z.sameKey (kf f' s')) z = true → has D z = true) ∧ Seg (Y.setCell ⟨g, s', none⟩ (.int .i64 0)) g 2 0 S (fun s => .int .i64 ((fun t => if true = true ∧ t = s' then 0 else v t) s)) ∧ FVal B p np S (fun z => left z && !z.sameKey (kf f' s')) (fun t => if true = true ∧ t = s' then 0 else v t) ∧ Seg (Y.setCell ⟨g, s', none⟩ (.int .i64 0)) (w.heap.size + 1) 142 0 14 (fun j => .bool (Nt.has p np (j : Int))) ∧ Below w.heap.size w (Y.setCell ⟨g, s', none⟩ (.int .i64 0)) ∧ g < (Y.setCell ⟨g, s', none⟩ (.int .i64 0)).heap.size) := by
              obtain ⟨j1, j2, j3, j4, j5⟩ := HYR.out
              have hgr : Y.grownBy (Y.setCell ⟨g, s', none⟩ (.int .i64 0)) (some g) := ⟨rfl, rfl, rfl, by simp, fun k hk hn => Below.heap_setCell _ _ _ _ (by simpa using hn)⟩
              have hgw := H2.out.2.2.2.1
              have hbw := H2.out.2.2.2.2.2.2
              refine ⟨j1.kept hgr (by simp; omega) (by simp; exact HRG.out.1), HL1.out, ?_, HST.out, j3.setOther (by show w.heap.size + 1 ≠ g; exact hgne) _, j4.setCell (by show w.heap.size ≤ g; omega) _, by simpa using j5⟩
              have := j2.set s' hsS (.int .i64 0)
              rw [Nat.zero_add] at this
              refine this.congr fun t ht => ?_
              by_cases e : t = s'
              · simp [e]
              · simp [e]
            go_wp2
            go_roundw
            case rel => exact ⟨_, cnt1, _, HN.out.1, HN.out.2⟩
            case measure => rw [HN.out.1.left_eq, HR.out.left_eq]; exact hcnt.out
          | false =>
            have HN : Hid ((∀ z, (fun z => left z && !z.sameKey (kf f' s')) z = true → has D z = true) ∧ Seg Y g 2 0 S (fun s => .int .i64 ((fun t => if false = true ∧ t = s' then 0 else v t) s)) ∧ FVal B p np S (fun z => left z && !z.sameKey (kf f' s')) (fun t => if false = true ∧ t = s' then 0 else v t) ∧ Seg Y (w.heap.size + 1) 142 0 14 (fun j => .bool (Nt.has p np (j : Int))) ∧ Below w.heap.size w Y ∧ g < Y.heap.size) := by
              obtain ⟨j1, j2, j3, j4, j5⟩ := HYR.out
              refine ⟨HL1.out, j2.congr fun t ht => by simp, HST.out, j3, j4, j5⟩
            go_wp2
            go_roundw
            case rel => exact ⟨_, cnt1, _, HYR.out.1, HN⟩
            case measure => rw [HYR.out.1.left_eq, HR.out.left_eq]; exact hcnt.out
end Go.Proofs.Ytnkjieindcdimaa
