/- Slots that are given: give and slideDown of the program. -/
import Derived.Test.YtinfbbbgfkaioaaTw
import Derived.Test.YtinfbbbgfkaioaaNw
import Derived.Test.YtinfbbbgfkaioaaCp
import Derived.Test.YtinfbbbgfkaioaaNe
import Derived.Test.YtinfbbbgfkaioaaLa
import Derived.Deep.RegionHeld3
namespace Go.Proofs.Ytinfbbbgfkaioaa
open Go.RowKit
set_option linter.unusedVariables false
set_option linter.unusedSimpArgs false
/-- All but the blocks of n rows is as it was. -/
def Rest (bs : Nat → Nat) (n : Nat) (w w' : World) : Prop := Below 0 w w' ∧ ∀ k, k < w.heap.size → (∀ i, i < n → k ≠ bs i) → w'.heap[k]? = w.heap[k]?
theorem Rest.refl (bs : Nat → Nat) (n : Nat) (w : World) : Rest bs n w w := ⟨Below.refl _ _, fun _ _ _ => rfl⟩
theorem Rest.trans {bs : Nat → Nat} {n : Nat} {a b c : World} (h : Rest bs n a b) (k : Rest bs n b c) : Rest bs n a c := ⟨h.1.trans k.1, fun i hs hi => (k.2 i (Nat.lt_of_lt_of_le hs h.1.size) hi).trans (h.2 i hs hi)⟩
theorem Rest.of_below {bs : Nat → Nat} {n : Nat} {a b : World} (h : Below a.heap.size a b) : Rest bs n a b := ⟨h.mono (Nat.zero_le _), fun k hk _ => h.block k hk⟩
theorem Rest.set {bs : Nat → Nat} {n : Nat} {a b : World} (h : Rest bs n a b) {i o : Nat} (hi : i < n) (v : Value) : Rest bs n a (b.setCell ⟨bs i, o, none⟩ v) :=
  ⟨h.1.setCell (Nat.zero_le _) _, fun k hs hk => (Below.heap_setCell _ _ _ _ (hk i hi)).trans (h.2 k hs hk)⟩
theorem Tb.set {lo hi : Nat} {w : World} {g : Nat} {bs : Nat → Nat} {n S : Nat} {F : Rm.Mx} (h : Tb lo hi w g bs n S F) {i j : Nat} (hi' : i < n) (hj : j < S) (v : Int) : Tb lo hi (w.setCell ⟨bs i, j, none⟩ (.int .i64 v)) g bs n S (fun a b => if a = i ∧ b = j then v else F a b) := by
  have hg : g ≠ bs i := h.top.ne (h.row i hi') (by decide)
  refine ⟨h.top.of_block (Below.heap_setCell _ _ _ _ hg), fun a ha => ?_, h.blo, h.bhi, h.rlo, h.rhi, h.apart⟩
  by_cases e : a = i
  · subst e
    have hs := (h.row a ha).set j hj (.int .i64 v)
    rw [Nat.zero_add] at hs
    refine hs.congr fun b hb => ?_
    by_cases e2 : b = j
    · simp [e2]
    · simp [e2]
  · refine ((h.row a ha).of_block (Below.heap_setCell _ _ _ _ (fun c => e (h.apart a i ha hi' c)))).congr fun b hb => ?_
    simp [e]
theorem giv_next {R : Rm.Mx} {p : Nat → Int} {k a m : Nat} {v : Int} {q : Nat} (hq : p k = (q : Int)) (f s : Nat) : (if f = q ∧ a ≤ s ∧ s < a + m then v else Nt.giv R p k a m v f s) = Nt.giv R p (k + 1) a m v f s := by
  have e : Nt.has p (k + 1) f = true ↔ (Nt.has p k f = true ∨ f = q) := by
    rw [Nt.has_iff, Nt.has_iff]
    constructor
    · rintro ⟨j, hj, e⟩
      by_cases c : j = k
      · subst c; rw [hq] at e; exact Or.inr (by omega)
      · exact Or.inl ⟨j, by omega, e⟩
    · rintro (⟨j, hj, e⟩ | e)
      · exact ⟨j, by omega, e⟩
      · exact ⟨k, by omega, by rw [hq, e]⟩
  unfold Nt.giv
  by_cases c : a ≤ s ∧ s < a + m
  · by_cases d : f = q
    · rw [if_pos ⟨d, c⟩, if_pos ⟨e.2 (Or.inr d), c⟩]
    · rw [if_neg (fun x => d x.1)]
      by_cases g : Nt.has p k f = true
      · rw [if_pos ⟨g, c⟩, if_pos ⟨e.2 (Or.inl g), c⟩]
      · rw [if_neg (fun x => g x.1), if_neg (fun x => (e.1 x.1).elim g d)]
  · rw [if_neg (fun x => c x.2), if_neg (fun x => c x.2), if_neg (fun x => c x.2)]
set_option maxRecDepth 20000 in
set_option maxHeartbeats 1600000 in
theorem give_any {w : World} {lo hi g n S : Nat} {bs : Nat → Nat} {R : Rm.Mx} (h : Tb lo hi w g bs n S R) {po : Option Addr} {np pc cap : Nat} {p : Nat → Int} (hp : RdRow w (.slice po np pc) np p) (hpo : ∀ b off, po = some ⟨b, off, none⟩ → ∀ i, i < n → b ≠ bs i) (hin : ∀ k, k < np → 0 ≤ p k ∧ p k < (n : Int)) (a m : Nat) (ham : a + m ≤ S) (hS : S ≤ 64) (hnp : np ≤ 1048576) (hn : n ≤ 1048576) (v : Int) :
    Calls Try.prog 108 #[.slice (some ⟨g, 0, none⟩) n cap, .slice po np pc, .int .i64 a, .int .i64 m, .int .i64 v] w fun e w' => e = .returned (.tuple #[]) ∧ Tb lo hi w' g bs n S (Nt.giv R p np a m v) ∧ Rest bs n w w' := by
  have HP : ∀ W, Rest bs n w W → ∀ k, k < np → Hid (∃ b off, po = some ⟨b, off, none⟩ ∧ W.cell? ⟨b, off + k, none⟩ = some (.int .i64 (p k))) := fun W hW k hk => by
    obtain ⟨b, off, e, hc⟩ := hp.at hk
    refine ⟨b, off, e, ?_⟩
    have hb := hW.2 b (World.block_lt_of_cell? _ _ hc) (hpo b off e)
    unfold World.cell? at hc ⊢
    rw [hb]
    exact hc
  have HI : Hid (∀ k, k < np → 0 ≤ p k ∧ p k < (n : Int)) := hin
  have H0 : Hid (Tb lo hi w g bs n S (Nt.giv R p 0 a m v)) := h.congr fun i j _ _ => by unfold Nt.giv; rw [if_neg (fun x => by have := Nt.has_iff.1 x.1; obtain ⟨k, hk, _⟩ := this; omega)]
  clear h hp hpo hin
  have hnI : (np : Int) ≤ 1048576 := by omega
  have hmI : (m : Int) ≤ 64 := by omega
  have haI : (a : Int) ≤ 64 := by omega
  go_enter Try.func108, Try.ntmps108
  go_wp2_with fail
  go_loopw [15] (fun i wr => ∃ k : Nat, k ≤ np ∧ i = .int .i64 k ∧ Hid (Tb lo hi wr g bs n S (Nt.giv R p k a m v) ∧ Rest bs n w wr)) (fun i _ => np - (intOf i).toNat)
  case atStart => exact ⟨0, Nat.zero_le _, rfl, H0.out, Rest.refl _ _ _⟩
  case round =>
    obtain ⟨k, hk, rfl, HF⟩ := hrel
    by_cases hkn : k < np
    · obtain ⟨b, off, rfl, hc⟩ := (HP wr HF.out.2 k hkn).out
      have hkI : (k : Int) < np := by omega
      obtain ⟨hq0, hq1⟩ := HI.out k hkn
      obtain ⟨q, hq⟩ : ∃ q : Nat, p k = (q : Int) := ⟨(p k).toNat, by omega⟩
      have hqn : q < n := by omega
      have hqI : (q : Int) < n := by omega
      have HQ : Hid (p k = (q : Int)) := hq
      rw [hq] at hc
      clear hq hq0 hq1
      go_wp2_with fail
      clear hc
      go_loopw [20] (fun i wr => ∃ j : Nat, j ≤ m ∧ i = .int .i64 j ∧ Hid (Tb lo hi wr g bs n S (fun f s => if f = q ∧ a ≤ s ∧ s < a + j then v else Nt.giv R p k a m v f s) ∧ Rest bs n w wr)) (fun i _ => m - (intOf i).toNat)
      case atStart => exact ⟨0, Nat.zero_le _, rfl, HF.out.1.congr (fun i j _ _ => by rw [if_neg (fun x => by omega)]), HF.out.2⟩
      case round =>
        obtain ⟨j, hj, rfl, HJ⟩ := hrel
        by_cases hjm : j < m
        · have hjI : (j : Int) < m := by omega
          have d := HJ.out.1.cellTop hqn
          obtain ⟨aj, haj⟩ : ∃ x : Nat, x = a + j := ⟨_, rfl⟩
          have e := HJ.out.1.cellAt hqn (show aj < S by omega)
          have ef : ∀ z, wr.frozen? ⟨bs q, z, none⟩ = false := fun z => (HJ.out.1.row q hqn).frozen z
          have hx : (a : Int) + j = (aj : Int) := by omega
          have hajS : (aj : Int) < S := by omega
          have haj64 : (aj : Int) ≤ 64 := by omega
          have HN : Hid (Tb lo hi (wr.setCell ⟨bs q, aj, none⟩ (.int .i64 v)) g bs n S (fun f s => if f = q ∧ a ≤ s ∧ s < a + (j + 1) then v else Nt.giv R p k a m v f s) ∧ Rest bs n w (wr.setCell ⟨bs q, aj, none⟩ (.int .i64 v))) := by
            refine ⟨(HJ.out.1.set hqn (show aj < S by omega) v).congr fun f s _ _ => ?_, HJ.out.2.set hqn _⟩
            by_cases c : f = q ∧ s = aj
            · rw [if_pos c, if_pos (by omega)]
            · rw [if_neg c]
              by_cases c2 : f = q ∧ a ≤ s ∧ s < a + j
              · rw [if_pos c2, if_pos (by omega)]
              · rw [if_neg c2, if_neg (by omega)]
          obtain ⟨y, hy⟩ : ∃ y, y = (if q = q ∧ a ≤ aj ∧ aj < a + j then v else Nt.giv R p k a m v q aj) := ⟨_, rfl⟩
          rw [← hy] at e
          clear haj hy
          go_wp2
          go_roundw
          case rel => exact ⟨j + 1, by omega, by simp, HN⟩
          case measure => simp [intOf]; omega
        · obtain rfl : m = j := by omega
          have HN : Hid (Tb lo hi wr g bs n S (Nt.giv R p (k + 1) a m v) ∧ Rest bs n w wr) := ⟨HJ.out.1.congr fun f s _ _ => giv_next HQ.out f s, HJ.out.2⟩
          go_wp2
          go_roundw
          case rel => exact ⟨k + 1, by omega, by simp, HN⟩
          case measure => simp [intOf]; omega
    · obtain rfl : np = k := by omega
      go_wp2
      exact bodyPost_end (v := .tuple #[]) (by simp [results, Try.results108, go_sem]) rfl ⟨rfl, HF.out⟩
theorem giv_twice {R R' : Rm.Mx} {p : Nat → Int} {np a m : Nat} {v : Int} (h : ∀ f s, Nt.giv R' p np a m v f s = Nt.giv R p np a m v f s) (f s : Nat) : Nt.giv (Nt.giv R' p np a m v) p np a m v f s = Nt.giv R p np a m v f s := by
  rw [← h f s]
  unfold Nt.giv
  split <;> rfl
/-- The rows of w, which may have been given to v; all else as in w. -/
def Gv (lo hi g nf S : Nat) (bs : Nat → Nat) (R : Rm.Mx) (p : Nat → Int) (np a m : Nat) (v : Int) (w W : World) : Prop :=
  Rest bs nf w W ∧ ∃ R', Tb lo hi W g bs nf S R' ∧ ∀ f s, Nt.giv R' p np a m v f s = Nt.giv R p np a m v f s
theorem Gv.start {lo hi g nf S : Nat} {bs : Nat → Nat} {R : Rm.Mx} {p : Nat → Int} {np a m : Nat} {v : Int} {w : World} (h : Tb lo hi w g bs nf S R) : Gv lo hi g nf S bs R p np a m v w w := ⟨Rest.refl _ _ _, R, h, fun _ _ => rfl⟩
theorem Gv.drew {lo hi g nf S : Nat} {bs : Nat → Nat} {R : Rm.Mx} {p : Nat → Int} {np a m : Nat} {v : Int} {w W : World} (h : Gv lo hi g nf S bs R p np a m v w W) : Gv lo hi g nf S bs R p np a m v w W.drew :=
  ⟨⟨h.1.1.drew, h.1.2⟩, h.2.imp fun R' hR => ⟨hR.1.keep fun _ _ _ => rfl, hR.2⟩⟩
theorem Gv.drewN {lo hi g nf S : Nat} {bs : Nat → Nat} {R : Rm.Mx} {p : Nat → Int} {np a m : Nat} {v : Int} {w W : World} (h : Gv lo hi g nf S bs R p np a m v w W) (q : Nat) : Gv lo hi g nf S bs R p np a m v w (W.drewN q) :=
  ⟨⟨below_drewN h.1.1 _, h.1.2⟩, h.2.imp fun R' hR => ⟨hR.1.keep fun _ _ _ => rfl, hR.2⟩⟩
theorem give_gv {lo hi g nf S : Nat} {bs : Nat → Nat} {R : Rm.Mx} {p : Nat → Int} {np a m : Nat} {v : Int} {w W : World} {po : Option Addr} {pc cap : Nat} (h : Gv lo hi g nf S bs R p np a m v w W) (hp : RdRow W (.slice po np pc) np p) (hpo : ∀ b off, po = some ⟨b, off, none⟩ → ∀ i, i < nf → b ≠ bs i) (hin : ∀ k, k < np → 0 ≤ p k ∧ p k < (nf : Int)) (ham : a + m ≤ S) (hS : S ≤ 64) (hnp : np ≤ 1048576) (hn : nf ≤ 1048576) :
    Calls Try.prog 108 #[.slice (some ⟨g, 0, none⟩) nf cap, .slice po np pc, .int .i64 a, .int .i64 m, .int .i64 v] W fun e w' => e = .returned (.tuple #[]) ∧ Gv lo hi g nf S bs R p np a m v w w' ∧ Tb lo hi w' g bs nf S (Nt.giv R p np a m v) := by
  obtain ⟨h1, R', h2, h3⟩ := h
  refine (give_any h2 hp hpo hin a m ham hS hnp hn v).mono ?_
  rintro e w' ⟨rfl, a1, a2⟩
  exact ⟨rfl, ⟨h1.trans a2, _, a1, giv_twice h3⟩, a1.congr fun i j _ _ => h3 i j⟩
set_option maxRecDepth 20000 in
set_option maxHeartbeats 1600000 in
theorem slideDown_any {w : World} {lo hi g nf S B lb n : Nat} {bs PB PC : Nat → Nat} {L : Nat → Li} {nodes slots : Int} {F : Nat → Fb} (h : Tb lo hi w g bs nf S (fun f s => Nt.bk L n f s)) (hc : Cpy B w lb n PB PC L) (hO : Nt.AllOk nodes slots nf F n L) (hS : slots.toNat = S) (hS64 : S ≤ 64) (hnf : nf ≤ 14) {cap k : Nat} (hk : k < n) (hB : hi ≤ B) :
    Calls Try.prog 100 #[.slice (some ⟨g, 0, none⟩) nf cap, .pointer (some ⟨lb, k * 6, none⟩), .int .i64 (Nt.lwt n L k : Nat)] w fun e w' => e = .returned (.tuple #[]) ∧ Tb lo hi w' g bs nf S (fun f s => Nt.bk (Nt.mov L k (Nt.lwt n L k : Nat)) n f s) ∧ Cpy B w' lb n PB PC (slid L k (Nt.lwt n L k : Nat)) ∧ Below 0 w w' ∧ ∀ j, j < w.heap.size → (∀ i, i < nf → j ≠ bs i) → j ≠ lb → w'.heap[j]? = w.heap[j]? := by
  have o := hO.ok k hk
  have f0 := o.f0
  have w1 := o.w1
  have tp := o.top
  have few := o.few
  have hle := Nt.lwt_le n L k
  have HG : Hid (∀ f s : Nat, Nt.giv (Nt.giv (fun f s => Nt.bk L n f s) (L k).p (L k).np (L k).fi.toNat (L k).wd.toNat 0) (L k).p (L k).np (Nt.lwt n L k) (L k).wd.toNat (L k).id f s = Nt.bk (Nt.mov L k (Nt.lwt n L k : Nat)) n f s) := fun f s => Nt.giv_bk hO hk f s
  obtain ⟨t, ht⟩ : ∃ t, t = Nt.lwt n L k := ⟨_, rfl⟩
  rw [← ht] at hle HG ⊢
  have hin : ∀ j, j < (L k).np → 0 ≤ (L k).p j ∧ (L k).p j < (nf : Int) := fun j hj => o.fib hj
  have hpath := hc.2.2 k hk
  have c0 := hc.cell hk (show 0 < 6 by omega)
  have c3 := hc.cell hk (show 3 < 6 by omega)
  have c4 := hc.cell hk (show 4 < 6 by omega)
  have c5 := hc.cell hk (show 5 < 6 by omega)
  simp only [lcell, Nat.add_zero] at c0 c3 c4 c5
  obtain ⟨x, hx⟩ : ∃ x, x = L k := ⟨_, rfl⟩
  have HX : Hid (x = L k) := hx
  rw [← hx] at c0 c3 c4 c5 f0 w1 tp few hle HG hin hpath
  obtain ⟨fi, hfi⟩ : ∃ a : Nat, x.fi = (a : Int) := ⟨x.fi.toNat, by omega⟩
  obtain ⟨wd, hwd⟩ : ∃ a : Nat, x.wd = (a : Int) := ⟨x.wd.toNat, by omega⟩
  rw [hfi, hwd] at HG
  rw [hfi] at c4 tp hle f0
  rw [hwd] at c5 tp w1
  simp only [Int.toNat_natCast] at HG hle
  have hlbs : ∀ i, i < nf → lb ≠ bs i := fun i hi' e => by have := h.rhi i hi'; have := hc.1; omega
  have hpbs : ∀ i, i < nf → PB k ≠ bs i := fun i hi' e => by have := h.rhi i hi'; have := hpath.1; omega
  have H : Hid (Tb lo hi w g bs nf S (fun f s => Nt.bk L n f s) ∧ Cpy B w lb n PB PC L) := ⟨h, hc⟩
  have HP : ∀ W, Rest bs nf w W → Hid (RdRow W (.slice (some ⟨PB k, 0, none⟩) x.np (PC k)) x.np x.p) := fun W hW => (hpath.2.of_block (hW.2 _ hpath.2.lt hpbs)).rd
  have HD : Hid (∀ i, i < nf → lb ≠ bs i) := hlbs
  have HD2 : Hid (∀ i, i < nf → PB k ≠ bs i) := hpbs
  have HI : Hid (∀ j, j < x.np → 0 ≤ x.p j ∧ x.p j < (nf : Int)) := hin
  have CL : ∀ W, Rest bs nf w W → W.cell? ⟨lb, k * 6, none⟩ = some (.int .i64 x.id) ∧ W.cell? ⟨lb, k * 6 + 3, none⟩ = some (.slice (some ⟨PB k, 0, none⟩) x.np (PC k)) ∧ W.cell? ⟨lb, k * 6 + 4, none⟩ = some (.int .i64 fi) ∧ W.cell? ⟨lb, k * 6 + 5, none⟩ = some (.int .i64 wd) ∧ ∀ z, W.frozen? ⟨lb, z, none⟩ = w.frozen? ⟨lb, z, none⟩ := fun W hW => by
    have hb := hW.2 lb hc.2.1.lt hlbs
    refine ⟨?_, ?_, ?_, ?_, fun z => ?_⟩
    · unfold World.cell? at c0 ⊢; rw [hb]; exact c0
    · unfold World.cell? at c3 ⊢; rw [hb]; exact c3
    · unfold World.cell? at c4 ⊢; rw [hb]; exact c4
    · unfold World.cell? at c5 ⊢; rw [hb]; exact c5
    · unfold World.frozen?; rw [hb]
  have hfz : ∀ z, w.frozen? ⟨lb, z, none⟩ = false := fun z => hc.2.1.frozen z
  clear h hc c0 c3 c4 c5 hx ht hfi hwd hpath hlbs hpbs hin o hO
  have q1 : fi + wd ≤ S := by omega
  have q2 : t + wd ≤ S := by omega
  have hlw := H.out.2.2.1.lt
  have k0 : ∀ W, Gv lo hi g nf S bs (fun f s => Nt.bk L n f s) x.p x.np fi wd 0 w W → W.cell? ⟨lb, k * 6 + 3, none⟩ = some (.slice (some ⟨PB k, 0, none⟩) x.np (PC k)) := fun W hW => (CL W hW.1).2.1
  have k1 : ∀ W, Gv lo hi g nf S bs (fun f s => Nt.bk L n f s) x.p x.np fi wd 0 w W → W.cell? ⟨lb, k * 6 + 4, none⟩ = some (.int .i64 fi) := fun W hW => (CL W hW.1).2.2.1
  have k2 : ∀ W, Gv lo hi g nf S bs (fun f s => Nt.bk L n f s) x.p x.np fi wd 0 w W → W.cell? ⟨lb, k * 6 + 5, none⟩ = some (.int .i64 wd) := fun W hW => (CL W hW.1).2.2.2.1
  have hG0 : Gv lo hi g nf S bs (fun f s => Nt.bk L n f s) x.p x.np fi wd 0 w w := Gv.start H.out.1
  have HK : ∀ W, Gv lo hi g nf S bs (fun f s => Nt.bk L n f s) x.p x.np fi wd 0 w W → Hid (Calls Try.prog 108 #[.slice (some ⟨g, 0, none⟩) nf cap, .slice (some ⟨PB k, 0, none⟩) x.np (PC k), .int .i64 fi, .int .i64 wd, .int .i64 0] W fun e w' => e = .returned (.tuple #[]) ∧ Gv lo hi g nf S bs (fun f s => Nt.bk L n f s) x.p x.np fi wd 0 w w' ∧ Tb lo hi w' g bs nf S (Nt.giv (fun f s => Nt.bk L n f s) x.p x.np fi wd 0)) := fun W hW => give_gv hW (HP W hW.1).out (fun b off e => by cases e; exact HD2.out) HI.out q1 hS64 (by omega) (by omega)
  go_enter Try.func100, Try.ntmps100
  go_upto_region 0 with fail
  go_region_held3 (fun W => Gv lo hi g nf S bs (fun f s => Nt.bk L n f s) x.p x.np fi wd 0 w W) (first | with_reducible assumption | (with_reducible apply Gv.drew; with_reducible assumption) | (with_reducible apply Gv.drewN; with_reducible assumption)) (first | (go_at_call 108; refine (HK _ (by first | with_reducible assumption | (with_reducible apply Gv.drew; with_reducible assumption) | (with_reducible apply Gv.drewN; with_reducible assumption))).out.mono ?_; rintro e w2 ⟨rfl, hG2, hT2⟩))
  have hr2 : Rest bs nf w w2 := hG2.1
  have htb2 := hT2
  clear k0 k1 k2 hG0 HK hG2 hT2
  have R2 : Hid (Rest bs nf w w2) := hr2
  have H2 : Hid (Tb lo hi w2 g bs nf S (Nt.giv (fun f s => Nt.bk L n f s) x.p x.np fi wd 0)) := htb2
  clear htb2 hr2
  have hl2 : lb < w2.heap.size := Nat.lt_of_lt_of_le hlw R2.out.1.size
  have k0 : ∀ W, Gv lo hi g nf S bs (Nt.giv (fun f s => Nt.bk L n f s) x.p x.np fi wd 0) x.p x.np t wd x.id w2 W → W.cell? ⟨lb, k * 6 + 3, none⟩ = some (.slice (some ⟨PB k, 0, none⟩) x.np (PC k)) := fun W hW => (CL W (R2.out.trans hW.1)).2.1
  have k1 : ∀ W, Gv lo hi g nf S bs (Nt.giv (fun f s => Nt.bk L n f s) x.p x.np fi wd 0) x.p x.np t wd x.id w2 W → W.cell? ⟨lb, k * 6, none⟩ = some (.int .i64 x.id) := fun W hW => (CL W (R2.out.trans hW.1)).1
  have k2 : ∀ W, Gv lo hi g nf S bs (Nt.giv (fun f s => Nt.bk L n f s) x.p x.np fi wd 0) x.p x.np t wd x.id w2 W → W.cell? ⟨lb, k * 6 + 5, none⟩ = some (.int .i64 wd) := fun W hW => (CL W (R2.out.trans hW.1)).2.2.2.1
  have hG0 : Gv lo hi g nf S bs (Nt.giv (fun f s => Nt.bk L n f s) x.p x.np fi wd 0) x.p x.np t wd x.id w2 w2 := Gv.start H2.out
  have HK : ∀ W, Gv lo hi g nf S bs (Nt.giv (fun f s => Nt.bk L n f s) x.p x.np fi wd 0) x.p x.np t wd x.id w2 W → Hid (Calls Try.prog 108 #[.slice (some ⟨g, 0, none⟩) nf cap, .slice (some ⟨PB k, 0, none⟩) x.np (PC k), .int .i64 t, .int .i64 wd, .int .i64 x.id] W fun e w' => e = .returned (.tuple #[]) ∧ Gv lo hi g nf S bs (Nt.giv (fun f s => Nt.bk L n f s) x.p x.np fi wd 0) x.p x.np t wd x.id w2 w' ∧ Tb lo hi w' g bs nf S (Nt.giv (Nt.giv (fun f s => Nt.bk L n f s) x.p x.np fi wd 0) x.p x.np t wd x.id)) := fun W hW => give_gv hW (HP W (R2.out.trans hW.1)).out (fun b off e => by cases e; exact HD2.out) HI.out q2 hS64 (by omega) (by omega)
  go_upto_region 1 with fail
  go_region_held3 (fun W => Gv lo hi g nf S bs (Nt.giv (fun f s => Nt.bk L n f s) x.p x.np fi wd 0) x.p x.np t wd x.id w2 W) (first | with_reducible assumption | (with_reducible apply Gv.drew; with_reducible assumption) | (with_reducible apply Gv.drewN; with_reducible assumption)) (first | (go_at_call 108; refine (HK _ (by first | with_reducible assumption | (with_reducible apply Gv.drew; with_reducible assumption) | (with_reducible apply Gv.drewN; with_reducible assumption))).out.mono ?_; rintro e w6 ⟨rfl, hG6, hT6⟩))
  have hr6 : Rest bs nf w2 w6 := hG6.1
  have htb6 := hT6
  clear k0 k1 k2 hG0 HK hG6 hT6
  have R6 : Hid (Rest bs nf w w6) := R2.out.trans hr6
  have H6 : Hid (Tb lo hi w6 g bs nf S (fun f s => Nt.bk (Nt.mov L k (t : Nat)) n f s)) := htb6.congr fun i j _ _ => HG.out i j
  clear htb6 hr6
  have c4 := (CL w6 R6.out).2.2.1
  have cf : ∀ z, w6.frozen? ⟨lb, z, none⟩ = false := fun z => ((CL w6 R6.out).2.2.2.2 z).trans (hfz z)
  have hl6 : lb < w6.heap.size := Nat.lt_of_lt_of_le hlw R6.out.1.size
  have FN : Hid (Tb lo hi (w6.setCell ⟨lb, k * 6 + 4, none⟩ (.int .i64 t)) g bs nf S (fun f s => Nt.bk (Nt.mov L k (t : Nat)) n f s) ∧ Cpy B (w6.setCell ⟨lb, k * 6 + 4, none⟩ (.int .i64 t)) lb n PB PC (slid L k (t : Nat)) ∧ Below 0 w (w6.setCell ⟨lb, k * 6 + 4, none⟩ (.int .i64 t)) ∧ ∀ j, j < w.heap.size → (∀ i, i < nf → j ≠ bs i) → j ≠ lb → (w6.setCell ⟨lb, k * 6 + 4, none⟩ (.int .i64 t)).heap[j]? = w.heap[j]?) := by
    have hC : Cpy B w6 lb n PB PC L := by
      obtain ⟨a1, a2, a3⟩ := H.out.2
      refine ⟨a1, a2.of_block (R6.out.2 _ a2.lt HD.out), fun i hi' => ⟨(a3 i hi').1, (a3 i hi').2.of_block (R6.out.2 _ (a3 i hi').2.lt fun q hq e => ?_)⟩⟩
      have := H.out.1.rhi q hq
      have := (a3 i hi').1
      omega
    refine ⟨H6.out.keep fun j h1 h2 => Below.heap_setCell _ _ _ _ (by show j ≠ lb; have := H.out.2.1; omega), hC.slide hk _, R6.out.1.setCell (Nat.zero_le _) _, fun j h1 h2 h3 => (Below.heap_setCell _ _ _ _ h3).trans (R6.out.2 j h1 h2)⟩
  clear CL
  go_wp2
  exact bodyPost_end (v := .tuple #[]) (by simp [results, Try.results100, go_sem]) rfl ⟨rfl, FN.out⟩
end Go.Proofs.Ytinfbbbgfkaioaa
