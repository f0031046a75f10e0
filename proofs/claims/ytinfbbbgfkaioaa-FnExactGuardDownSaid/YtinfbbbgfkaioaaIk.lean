/- The book of a list of lights, and what is wrong with the list, in the program: contracts. -/
import Derived.Test.YtinfbbbgfkaioaaIe
import Derived.Test.YtinfbbbgfkaioaaSm
namespace Go.Proofs.Ytinfbbbgfkaioaa
open Go.RowKit Go.Maps
set_option linter.unusedVariables false
set_option linter.unusedSimpArgs false
/-- The Id of the light ahead; 0: there is none. -/
def ahead (L : Nat → Li) : Nat → Int
  | 0 => 0
  | k + 1 => (L k).id
theorem ahead_iff {nodes slots : Int} {nf : Nat} {F : Nat → Fb} {L : Nat → Li} {k : Nat} (h : Nt.AllOk nodes slots nf F k L) : (L k).id ≤ ahead L k ↔ ((L k).id < 1 ∨ (0 < k ∧ (L k).id ≤ (L (k - 1)).id)) := by
  cases k with
  | zero => simp only [ahead]; omega
  | succ k =>
    have := (h.ok k (by omega)).id1
    simp only [ahead, Nat.add_sub_cancel]
    omega
theorem lonly_net {nodes slots : Int} {nf : Nat} {F : Nat → Fb} {L : Nat → Li} {k : Nat} (s64 : slots ≤ 64) (h : ¬ ((L k).id < 1 ∨ (0 < k ∧ (L k).id ≤ (L (k - 1)).id))) {x : Li} {m : Nat} (hx : x = L k) (hm : m = (L k).np) (hc : lonly nodes slots nf F x m ≠ 0) : Nt.lcode nodes slots nf F L k = lonly nodes slots nf F x m := by
  subst hx
  subst hm
  unfold lonly at hc ⊢
  by_cases r : Nt.rfault nodes slots nf F (L k).fr (L k).tt (L k).np (L k).p = 0
  · rw [if_pos r] at hc ⊢
    by_cases g : (L k).wd < 1 ∨ (L k).fi < 0 ∨ slots - (L k).fi < (L k).wd
    · rw [if_pos g]
      exact lc_three h r ((Nt.rng_is s64).2 g)
    · rw [if_neg g] at hc
      exact absurd rfl hc
  · rw [if_neg r]
    exact lc_rf h r
theorem lonly_ok {nodes slots : Int} {nf : Nat} {F : Nat → Fb} {L : Nat → Li} {k : Nat} (s64 : slots ≤ 64) (h : ¬ ((L k).id < 1 ∨ (0 < k ∧ (L k).id ≤ (L (k - 1)).id))) {x : Li} {m : Nat} (hx : x = L k) (hm : m = (L k).np) (hc : lonly nodes slots nf F x m = 0) : Nt.rfault nodes slots nf F (L k).fr (L k).tt (L k).np (L k).p = 0 ∧ Nt.rngB slots (L k) = false ∧ Nt.LOk nodes slots nf F (L k) := by
  subst hx
  subst hm
  unfold lonly at hc
  by_cases r : Nt.rfault nodes slots nf F (L k).fr (L k).tt (L k).np (L k).p = 0
  · rw [if_pos r] at hc
    by_cases g : (L k).wd < 1 ∨ (L k).fi < 0 ∨ slots - (L k).fi < (L k).wd
    · rw [if_pos g] at hc; omega
    · have hr : Nt.rngB slots (L k) = false := by
        cases e : Nt.rngB slots (L k) with
        | false => rfl
        | true => exact absurd ((Nt.rng_is s64).1 e) g
      exact ⟨r, hr, ⟨by omega, r, by omega, by omega, by omega⟩⟩
  · rw [if_neg r] at hc; exact absurd hc r
theorem fine_of {nodes slots : Int} {nf : Nat} {F : Nat → Fb} {x : Li} {m : Nat} (h : Nt.LOk nodes slots nf F x) (hm : x.np = m) (hi : x.id ≤ 9223372036854775807) : Fine x m := by
  have G := h.net
  have h1 := h.w1
  have h2 := h.f0
  have h3 := h.top
  have h4 := G.s64
  have h5 := G.f14
  refine ⟨hm, by rw [← hm]; exact h.few, by rw [← hm]; exact h.one, h1, by omega, h2, by omega, h.id1, hi, fun i hi => ?_, h.once⟩
  have := h.fib (show i < x.np by rw [hm]; exact hi)
  omega
theorem bk_ent (L : Nat → Li) (k : Nat) (hw : 1 ≤ (L k).wd) (f s : Int) : Nt.ent (Nt.bk L k) (L k) ((L k).np * (L k).wd.toNat) f s = Nt.bk L (k + 1) f s := Nt.ent_all hw f s
set_option maxRecDepth 20000 in
set_option maxHeartbeats 3200000 in
theorem iBook_any {w : World} {ao lo : Option Addr} {nf cp n cl : Nat} {nodes slots : Int} {F : Nat → Fb} {L : Nat → Li} (h : Rf w (.slice ao nf cp) nf F) (hl : RdL w (.slice lo n cl) n L) (hcp : nf ≤ cp) (hf : nf ≤ 1048576) (hw : LFew n L) (hd : LBd n L) :
    Calls Try.prog 103 #[.agg #[.int .i64 nodes, .int .i64 slots, .slice ao nf cp], .slice lo n cl] w fun e w' => (Nt.lfault nodes slots nf F n L ≠ 0 ∧ e = .returned (.tuple #[.map none, .int .i64 (Nt.lfault nodes slots nf F n L)]) ∨ Nt.lfault nodes slots nf F n L = 0 ∧ ∃ b q, e = .returned (.tuple #[.map (some b), .int .i64 0]) ∧ w.heap.size ≤ b ∧ q ≤ 30000 ∧ Book w' b q (Nt.bk L n)) ∧ Below w.heap.size w w' := by
  obtain ⟨X, hX⟩ : ∃ X, X = (w.alloc (.cells #[.int .i64 nodes, .int .i64 slots, .slice ao nf cp] 37)) := ⟨_, rfl⟩
  have BX : Hid (Blk X w.heap.size #[.int .i64 nodes, .int .i64 slots, .slice ao nf cp] 37 ∧ Below w.heap.size w X) := by rw [hX]; exact ⟨Blk.new rfl, (Below.refl _ _).alloc (Nat.le_refl _) _⟩
  have CX : ∀ W, Below X.heap.size X W → W.cell? ⟨w.heap.size, 0, none⟩ = some (.int .i64 nodes) ∧ W.cell? ⟨w.heap.size, 1, none⟩ = some (.int .i64 slots) ∧ W.cell? ⟨w.heap.size, 2, none⟩ = some (.slice ao nf cp) :=
    fun W h => ⟨(BX.out.1.old h).cell rfl, (BX.out.1.old h).cell rfl, (BX.out.1.old h).cell rfl⟩
  have hXz : w.heap.size ≤ X.heap.size := Nat.le_of_lt BX.out.1.lt
  have hnI : (n : Int) ≤ 1048576 := by have := hw.cn; omega
  have H : ∀ W, Below X.heap.size X W → Hid (Rf W (.slice ao nf cp) nf F ∧ RdL W (.slice lo n cl) n L ∧ LFew n L ∧ LBd n L) := fun W hb => ⟨h.later (BX.out.2.trans (hb.mono hXz)), hl.later (BX.out.2.trans (hb.mono hXz)), hw, hd⟩
  clear h hl hw hd
  obtain ⟨c, hc⟩ : ∃ c, c = Nt.nfault nodes slots nf F := ⟨_, rfl⟩
  have HC : Hid (c = Nt.nfault nodes slots nf F) := hc
  by_cases hz : c = 0
  · have hc0 : Nt.nfault nodes slots nf F = 0 := by rw [← hc]; exact hz
    by_cases hn40 : 40 < (n : Int)
    · rw [lf_many hc0 hn40]
      clear hc hc0
      go_enter Try.func103, Try.ntmps103
      go_wp2_with fail
      rw [← hX]
      clear hX
      obtain ⟨x0, x1, x2⟩ := CX X (Below.refl _ _)
      go_wp2_with fail
      refine (iNf_any (H _ (Below.refl _ _)).out.1 hcp hf).mono ?_
      rintro e w1 ⟨rfl, hb1⟩
      rw [← HC.out]
      clear x0 x1 x2
      rw [hz]
      go_wp2
      refine bodyPost_ret (v := .tuple #[.map none, .int .i64 2]) (by simp [results, Try.results103, go_sem]) rfl ⟨Or.inl ⟨by omega, rfl⟩, BX.out.2.trans (hb1.mono hXz)⟩
    · have HN : Hid (Nt.nfault nodes slots nf F = 0 ∧ Nt.Good nodes slots nf F) := ⟨hc0, Nt.nf_good hc0⟩
      have hs64 : slots ≤ 64 := HN.out.2.s64
      have hs1 : 1 ≤ slots := HN.out.2.s1
      obtain ⟨C, hC⟩ : ∃ C, C = Nt.fst (Nt.lcode nodes slots nf F L) n := ⟨_, rfl⟩
      have HCC : Hid (C = Nt.fst (Nt.lcode nodes slots nf F L) n) := hC
      rw [lf_fst hc0 hn40, ← hC]
      clear hc hc0 hC
      have hmm := @run_makeMap Try.prog
      go_enter Try.func103, Try.ntmps103
      go_wp2_with fail
      rw [← hX]
      clear hX
      obtain ⟨x0, x1, x2⟩ := CX X (Below.refl _ _)
      go_wp2_with fail
      refine (iNf_any (H _ (Below.refl _ _)).out.1 hcp hf).mono ?_
      rintro e w1 ⟨rfl, hb1⟩
      rw [← HC.out]
      clear x0 x1 x2
      rw [hz]
      obtain ⟨M, hM⟩ : ∃ M, M = w1.alloc (.map #[] 0) := ⟨_, rfl⟩
      have HB1 : Hid (Below X.heap.size X w1 ∧ Book M w1.heap.size 0 (fun _ _ => 0) ∧ Below w1.heap.size w1 M) := by rw [hM]; exact ⟨hb1, Book.made w1, (Below.refl _ _).alloc (Nat.le_refl _) _⟩
      clear hb1
      go_wp2_with fail
      rw [← hM]
      clear hM hmm
      go_loopw [8, 23] (fun u i wr => ∃ k : Nat, k ≤ n ∧ i = .int .i64 k ∧ u = .int .i64 (ahead L k) ∧ Hid (Below w1.heap.size w1 wr) ∧ Hid (∃ q, q ≤ 512 * k ∧ Book wr w1.heap.size q (Nt.bk L k)) ∧ Hid (Nt.fst (Nt.lcode nodes slots nf F L) k = 0)) (fun _ i _ => n - (intOf i).toNat)
      case atStart => exact ⟨0, Nat.zero_le _, rfl, rfl, HB1.out.2.2, ⟨0, Nat.zero_le _, HB1.out.2.1⟩, rfl⟩
      case round =>
        obtain ⟨k, hk, rfl, rfl, HB, HQ, HK⟩ := hrel
        obtain ⟨a0, ha0⟩ : ∃ a, a = ahead L k := ⟨_, rfl⟩
        have HA0 : Hid (a0 = ahead L k) := ha0
        rw [← ha0]
        clear ha0
        have HXr : Hid (Below X.heap.size X wr) := HB1.out.1.trans (HB.out.mono HB1.out.1.size)
        by_cases hkn : k < n
        · obtain ⟨bl, ol, po, pc, rfl, hcl, hp⟩ := (H wr HXr.out).out.2.1.at hkn
          obtain ⟨x, hx⟩ : ∃ x, x = L k := ⟨_, rfl⟩
          obtain ⟨m, hm⟩ : ∃ m, m = (L k).np := ⟨_, rfl⟩
          have hmb : m ≤ 1048576 := by rw [hm]; exact (H wr HXr.out).out.2.2.1.each hkn
          rw [← hm, ← hx] at hcl hp
          have c0 : wr.cell? ⟨bl, ol + k * 6, none⟩ = some (.int .i64 x.id) := hcl 0 (by omega)
          have c1 : wr.cell? ⟨bl, ol + k * 6 + 1, none⟩ = some (.int .i64 x.fr) := hcl 1 (by omega)
          have c2 : wr.cell? ⟨bl, ol + k * 6 + 2, none⟩ = some (.int .i64 x.tt) := hcl 2 (by omega)
          have c3 : wr.cell? ⟨bl, ol + k * 6 + 3, none⟩ = some (.slice po m pc) := hcl 3 (by omega)
          have c4 : wr.cell? ⟨bl, ol + k * 6 + 4, none⟩ = some (.int .i64 x.fi) := hcl 4 (by omega)
          have c5 : wr.cell? ⟨bl, ol + k * 6 + 5, none⟩ = some (.int .i64 x.wd) := hcl 5 (by omega)
          have hbl : bl < wr.heap.size := World.block_lt_of_cell? _ _ c0
          have HX : Hid (x = L k ∧ m = (L k).np ∧ x.np = m) := ⟨hx, hm, by rw [hx, hm]⟩
          have hkI : (k : Int) < n := by omega
          have HOk : Hid (Nt.AllOk nodes slots nf F k L) := Nt.allOk HK.out
          have hLb := (H wr HXr.out).out.2.2.2 k hkn
          have hfh : x.fi ≤ 9223372036854775807 := by rw [hx]; exact hLb.2.2.1
          have HIh : Hid (x.id ≤ 9223372036854775807) := by show x.id ≤ _; rw [hx]; exact hLb.2.2.2.2.2
          obtain ⟨Y, hY⟩ : ∃ Y, Y = wr.alloc (.cells #[.int .i64 x.id, .int .i64 x.fr, .int .i64 x.tt, .slice po m pc, .int .i64 x.fi, .int .i64 x.wd] 80) := ⟨_, rfl⟩
          have BY : Hid (Blk Y wr.heap.size #[.int .i64 x.id, .int .i64 x.fr, .int .i64 x.tt, .slice po m pc, .int .i64 x.fi, .int .i64 x.wd] 80 ∧ Below wr.heap.size wr Y ∧ Below w1.heap.size w1 Y ∧ RdRow Y (.slice po m pc) m x.p) := by
            rw [hY]
            have hbl2 : Below wr.heap.size wr (wr.alloc (.cells #[.int .i64 x.id, .int .i64 x.fr, .int .i64 x.tt, .slice po m pc, .int .i64 x.fi, .int .i64 x.wd] 80)) := (Below.refl _ _).alloc (Nat.le_refl _) _
            exact ⟨Blk.new rfl, hbl2, HB.out.trans (hbl2.mono HB.out.size), hp.later hbl2⟩
          clear hcl hp hx hm hLb
          go_upto_region 11 with fail
          rw [← hY]
          clear hY c0 c1 c2 c3 c4 c5
          have y0 : Y.cell? ⟨wr.heap.size, 0, none⟩ = some (.int .i64 x.id) := BY.out.1.cell rfl
          by_cases hid : x.id ≤ a0
          · have hs : Hid (C = 1) := by
              rw [HCC.out, Nt.fst_stop HK.out _ hkn]
              · exact lc_one ((ahead_iff HOk.out).1 (by rw [← HX.out.1, ← HA0.out]; exact hid))
              · rw [lc_one ((ahead_iff HOk.out).1 (by rw [← HX.out.1, ← HA0.out]; exact hid))]; omega
            go_wp2
            refine bodyPost_ret (v := .tuple #[.map none, .int .i64 1]) (by simp [results, Try.results103, go_sem]) rfl ⟨Or.inl ⟨by rw [hs.out]; omega, by rw [hs.out]⟩, BX.out.2.trans ((HB1.out.1.trans (BY.out.2.2.1.mono HB1.out.1.size)).mono hXz)⟩
          · have HID : Hid (¬ ((L k).id < 1 ∨ (0 < k ∧ (L k).id ≤ (L (k - 1)).id))) := fun hh => hid (by rw [HX.out.1, HA0.out]; exact (ahead_iff HOk.out).2 hh)
            have HXY : Hid (Below X.heap.size X Y) := HB1.out.1.trans (BY.out.2.2.1.mono HB1.out.1.size)
            obtain ⟨x0, x1, x2⟩ := CX Y HXY.out
            have y1 : Y.cell? ⟨wr.heap.size, 1, none⟩ = some (.int .i64 x.fr) := BY.out.1.cell rfl
            have y2 : Y.cell? ⟨wr.heap.size, 2, none⟩ = some (.int .i64 x.tt) := BY.out.1.cell rfl
            have y3 : Y.cell? ⟨wr.heap.size, 3, none⟩ = some (.slice po m pc) := BY.out.1.cell rfl
            have y4 : Y.cell? ⟨wr.heap.size, 4, none⟩ = some (.int .i64 x.fi) := BY.out.1.cell rfl
            have y5 : Y.cell? ⟨wr.heap.size, 5, none⟩ = some (.int .i64 x.wd) := BY.out.1.cell rfl
            go_wp2_with fail
            refine (iLitF_any x (H Y HXY.out).out.1 BY.out.2.2.2 hcp hf hmb hs1 hs64 hfh).mono ?_
            rintro e w2 ⟨rfl, hb2⟩
            clear x0 x1 x2 y0 y1 y2 y3 y4 y5 hid
            have H2 : Hid (Blk w2 wr.heap.size #[.int .i64 x.id, .int .i64 x.fr, .int .i64 x.tt, .slice po m pc, .int .i64 x.fi, .int .i64 x.wd] 80 ∧ Below wr.heap.size wr w2 ∧ Below w1.heap.size w1 w2 ∧ RdRow w2 (.slice po m pc) m x.p) := ⟨BY.out.1.old hb2, BY.out.2.1.trans (hb2.mono BY.out.2.1.size), BY.out.2.2.1.trans (hb2.mono BY.out.2.2.1.size), BY.out.2.2.2.later hb2⟩
            clear hb2
            obtain ⟨d, hd⟩ : ∃ d, d = lonly nodes slots nf F x m := ⟨_, rfl⟩
            have HD : Hid (d = lonly nodes slots nf F x m) := hd
            rw [← hd]
            clear hd
            have y0 : w2.cell? ⟨wr.heap.size, 0, none⟩ = some (.int .i64 x.id) := H2.out.1.cell rfl
            have y1 : w2.cell? ⟨wr.heap.size, 1, none⟩ = some (.int .i64 x.fr) := H2.out.1.cell rfl
            have y2 : w2.cell? ⟨wr.heap.size, 2, none⟩ = some (.int .i64 x.tt) := H2.out.1.cell rfl
            have y3 : w2.cell? ⟨wr.heap.size, 3, none⟩ = some (.slice po m pc) := H2.out.1.cell rfl
            have y4 : w2.cell? ⟨wr.heap.size, 4, none⟩ = some (.int .i64 x.fi) := H2.out.1.cell rfl
            have y5 : w2.cell? ⟨wr.heap.size, 5, none⟩ = some (.int .i64 x.wd) := H2.out.1.cell rfl
            by_cases hdz : d = 0
            · have hdb : (d != 0) = false := by simp [hdz]
              have hok := lonly_ok hs64 HID.out HX.out.1 HX.out.2.1 (by rw [← HD.out]; exact hdz)
              have HOK : Hid (Nt.rfault nodes slots nf F (L k).fr (L k).tt (L k).np (L k).p = 0 ∧ Nt.rngB slots (L k) = false ∧ Nt.LOk nodes slots nf F (L k) ∧ Fine x m) := ⟨hok.1, hok.2.1, hok.2.2, fine_of (by rw [HX.out.1]; exact hok.2.2) HX.out.2.2 HIh.out⟩
              clear hok
              obtain ⟨q, hq, hbk⟩ := HQ.out
              have HBk : Hid (Book w2 w1.heap.size q (Nt.bk L k) ∧ q ≤ 512 * k) := ⟨hbk.later H2.out.2.1, hq⟩
              have hq2 : q ≤ 100000 := by omega
              clear hq hbk
              cases hme : Nt.any (fun j => Nt.meets (L k) (L j)) k with
              | true =>
                have hs : Hid (C = 7) := by
                  have e7 := lc_seven HID.out HOK.out.1 HOK.out.2.1 hme
                  rw [HCC.out, Nt.fst_stop HK.out (by rw [e7]; omega) hkn]
                  exact e7
                have HHt : Hid (∃ t, t < m * x.wd.toNat ∧ Nt.bk L k (Nt.slF x t) (Nt.slS x t) ≠ 0) := by
                  have := (Nt.meets_at HOk.out HOK.out.2.2.1).1 hme
                  rw [← HX.out.1, HX.out.2.2] at this
                  exact this
                clear hme
                go_wp2_with (first | (go_at_call 111; refine (enter_no x HBk.out.1 hq2 H2.out.2.2.2 HOK.out.2.2.2 HHt.out).mono ?_; rintro e w3 ⟨rfl, hon⟩))
                refine bodyPost_ret (v := .tuple #[.map none, .int .i64 7]) (by simp [results, Try.results103, go_sem]) rfl ⟨Or.inl ⟨by rw [hs.out]; omega, by rw [hs.out]⟩, BX.out.2.trans ((HB1.out.1.trans ((H2.out.2.2.1.trans hon.below).mono HB1.out.1.size)).mono hXz)⟩
              | false =>
                have HS : Hid (Nt.fst (Nt.lcode nodes slots nf F L) (k + 1) = 0) := Nt.fst_next HK.out (lc_nil HID.out HOK.out.1 HOK.out.2.1 hme)
                have HHt : Hid (∀ t, t < m * x.wd.toNat → Nt.bk L k (Nt.slF x t) (Nt.slS x t) = 0) := fun t ht => by
                  cases Classical.em (Nt.bk L k (Nt.slF x t) (Nt.slS x t) = 0) with
                  | inl e => exact e
                  | inr e =>
                    have := (Nt.meets_at HOk.out HOK.out.2.2.1).2 ⟨t, by rw [← HX.out.1, HX.out.2.2]; exact ht, by rw [← HX.out.1]; exact e⟩
                    rw [hme] at this
                    cases this
                clear hme
                go_wp2_with fail
                refine (enter_ok x HBk.out.1 hq2 H2.out.2.2.2 HOK.out.2.2.2 HHt.out).mono ?_
                rintro e w3 ⟨rfl, hbk3, hon⟩
                have hne : wr.heap.size ≠ w1.heap.size := by have := HB.out.size; have := HBk.out.1.lt; exact HBk.out.1.ne H2.out.1
                have H3 : Hid (Blk w3 wr.heap.size #[.int .i64 x.id, .int .i64 x.fr, .int .i64 x.tt, .slice po m pc, .int .i64 x.fi, .int .i64 x.wd] 80 ∧ Below w1.heap.size w1 w3 ∧ ∃ q, q ≤ 512 * (k + 1) ∧ Book w3 w1.heap.size q (Nt.bk L (k + 1))) := by
                  refine ⟨hon.blk H2.out.1 hne, H2.out.2.2.1.trans hon.below, q + m * x.wd.toNat, ?_, ?_⟩
                  · have := m_few HOK.out.2.2.2
                    have := HBk.out.2
                    omega
                  · refine hbk3.congr fun f s => ?_
                    have := bk_ent L k HOK.out.2.2.1.w1 f s
                    rw [← HX.out.1, HX.out.2.2] at this
                    exact this
                have HAh : Hid (ahead L (k + 1) = x.id) := by show (L k).id = x.id; rw [HX.out.1]
                clear hbk3 hon y0 y1 y2 y3 y4 y5
                have y0 : w3.cell? ⟨wr.heap.size, 0, none⟩ = some (.int .i64 x.id) := H3.out.1.cell rfl
                go_wp2
                go_roundw
                case rel => exact ⟨k + 1, by omega, by simp, by rw [HAh.out], H3.out.2.1, H3.out.2.2, HS⟩
                case measure => simp [intOf]; omega
            · have hdb : (d != 0) = true := by simpa using hdz
              have hs : Hid (C = d) := by
                have e7 := lonly_net hs64 HID.out HX.out.1 HX.out.2.1 (by rw [← HD.out]; exact hdz)
                show C = d
                rw [HCC.out, Nt.fst_stop HK.out (by rw [e7, ← HD.out]; exact hdz) hkn, e7, HD.out]
              have HDz : Hid (d ≠ 0) := hdz
              clear hdz
              go_wp2
              refine bodyPost_ret (v := .tuple #[.map none, .int .i64 d]) (by simp [results, Try.results103, go_sem]) rfl ⟨Or.inl ⟨by rw [hs.out]; exact HDz.out, by rw [hs.out]⟩, BX.out.2.trans ((HB1.out.1.trans (H2.out.2.2.1.mono HB1.out.1.size)).mono hXz)⟩
        · obtain rfl : k = n := by omega
          have hs : Hid (C = 0) := by rw [HCC.out]; exact HK.out
          obtain ⟨q, hq, hbk⟩ := HQ.out
          have HBk : Hid (Book wr w1.heap.size q (Nt.bk L k) ∧ q ≤ 30000) := ⟨hbk, by omega⟩
          clear hq hbk
          go_wp2
          refine bodyPost_ret (v := .tuple #[.map (some w1.heap.size), .int .i64 0]) (by simp [results, Try.results103, go_sem]) rfl ⟨Or.inr ⟨hs.out, w1.heap.size, q, rfl, Nat.le_trans hXz HB1.out.1.size, HBk.out.2, HBk.out.1⟩, BX.out.2.trans (HXr.out.mono hXz)⟩
  · have hz' : (c == 0) = false := by simpa using hz
    have hz2 : (c != 0) = true := by simpa using hz
    have HZ : Hid (c ≠ 0) := hz
    rw [lf_net (by rw [← hc]; exact hz), ← hc]
    clear hc hz
    go_enter Try.func103, Try.ntmps103
    go_wp2_with fail
    rw [← hX]
    clear hX
    obtain ⟨x0, x1, x2⟩ := CX X (Below.refl _ _)
    go_wp2_with fail
    refine (iNf_any (H _ (Below.refl _ _)).out.1 hcp hf).mono ?_
    rintro e w1 ⟨rfl, hb1⟩
    rw [← HC.out]
    clear x0 x1 x2
    go_wp2
    refine bodyPost_ret (v := .tuple #[.map none, .int .i64 c]) (by simp [results, Try.results103, go_sem]) rfl ⟨Or.inl ⟨HZ.out, rfl⟩, BX.out.2.trans (hb1.mono hXz)⟩
end Go.Proofs.Ytinfbbbgfkaioaa
