/- FlawsOf, by the program: a contract. -/
import Derived.Test.YtclnmikneomccaaFf
import Derived.Test.YtclnmikneomccaaFx
import Derived.Test.YtclnmikneomccaaRv
import Derived.Test.YtclnmikneomccaaUf
namespace Go.Proofs.Ytclnmikneomccaa
open Go.RowKit Go.Maps
set_option linter.unusedVariables false
set_option linter.unusedSimpArgs false
def fcd (S : Nat → R.G) (n : Nat) (Ru : Nat → U.G) (m : Nat) : Int := if rcode S n ≠ 0 then rcode S n else ucode Ru m
theorem Wl.lt {w : World} {lo : Nat} {v : Value} {L : List Fw.G} (h : Wl w lo v L) : ∀ g, v.ownBlock = some g → lo ≤ g ∧ g < w.heap.size := fun g hg => World.ownsRow.lt h g hg
/-- A flaws' answer that owns its memory. -/
def OwnW (lo hi : Nat) (w : World) (c : Int) (v : Value) (L : List Fw.G) : Prop := (c ≠ 0 ∧ v = .slice none 0 0) ∨ (c = 0 ∧ Fw.OwJ lo hi w v L.length (fget L))
/-- While flaws are told: the result, what is told so far, the nets. -/
structure Fst (w W : World) (p4 p6 L0 : Nat) (vN vL : Value) (n : Nat) (X : Nat → Int) (L : List Fw.G) : Prop where
  b4 : Blk W p4 #[.int .i64 0, .slice none 0 0] 45
  b6 : Blk W p6 #[.int .i64 0, vL] 45
  nets : Ol W (p6 + 1) vN (fints X n)
  li : Wl W L0 vL L
  nl : ∀ g, vN.ownBlock = some g → g < L0
  be : Below w.heap.size w W
  sz : L0 ≤ W.heap.size
  l4 : p4 < L0
  l6 : p6 < L0
  ne : p4 ≠ p6
  w4 : w.heap.size ≤ p4
  w6 : w.heap.size ≤ p6
theorem Fst.later {w W W' : World} {p4 p6 L0 : Nat} {vN vL : Value} {n : Nat} {X : Nat → Int} {L : List Fw.G} (h : Fst w W p4 p6 L0 vN vL n X L) (hb : Below W.heap.size W W') : Fst w W' p4 p6 L0 vN vL n X L :=
  ⟨h.b4.old hb, h.b6.old hb, h.nets.later hb, h.li.later hb, h.nl, h.be.trans (hb.mono h.be.size), Nat.le_trans h.sz hb.size, h.l4, h.l6, h.ne, h.w4, h.w6⟩
/-- The list is pushed onto, and then stored into what is told. -/
structure Fst1 (w W : World) (p4 p6 L0 : Nat) (vN vL v0 : Value) (n : Nat) (X : Nat → Int) (L : List Fw.G) : Prop where
  b4 : Blk W p4 #[.int .i64 0, .slice none 0 0] 45
  b6 : Blk W p6 #[.int .i64 0, v0] 45
  nets : Ol W (p6 + 1) vN (fints X n)
  li : Wl W L0 vL L
  nl : ∀ g, vN.ownBlock = some g → g < L0
  be : Below w.heap.size w W
  sz : L0 ≤ W.heap.size
  l4 : p4 < L0
  l6 : p6 < L0
  ne : p4 ≠ p6
  w4 : w.heap.size ≤ p4
  w6 : w.heap.size ≤ p6
theorem Fst.push {w W W' : World} {p4 p6 L0 : Nat} {vN vL v' : Value} {n : Nat} {X : Nat → Int} {L : List Fw.G} (h : Fst w W p4 p6 L0 vN vL n X L) (hb : Below L0 W W') {M : List Fw.G} (ho : Wl W' L0 v' M) : Fst1 w W' p4 p6 L0 vN v' vL n X M :=
  ⟨(hb.block p4 h.l4).trans h.b4, (hb.block p6 h.l6).trans h.b6, h.nets.keepOn fun g hg => hb.block g (h.nl g hg), ho, h.nl, h.be.trans (hb.mono (by have := h.w4; have := h.l4; omega)), Nat.le_trans h.sz hb.size, h.l4, h.l6, h.ne, h.w4, h.w6⟩
theorem Fst1.stored {w W : World} {p4 p6 L0 : Nat} {vN vL v0 : Value} {n : Nat} {X : Nat → Int} {L : List Fw.G} (h : Fst1 w W p4 p6 L0 vN vL v0 n X L) : Fst w (W.setCell ⟨p6, 1, none⟩ vL) p4 p6 L0 vN vL n X L := by
  have key : ∀ g, g ≠ p6 → (W.setCell ⟨p6, 1, none⟩ vL).heap[g]? = W.heap[g]? := fun g hg => Below.heap_setCell _ _ _ _ (by simpa using hg)
  refine ⟨h.b4.setOther (by simpa using h.ne) _, h.b6.set 1 _ rfl, h.nets.keepOn fun g hg => key g ?_, h.li.keepOn fun g hg => key g ?_, h.nl, h.be.setCell h.w6 _, by simpa using h.sz, h.l4, h.l6, h.ne, h.w4, h.w6⟩
  · have := (h.nets.lt g hg).1; omega
  · have := (h.li.lt g hg).1; have := h.l6; omega
set_option maxRecDepth 20000 in
set_option maxHeartbeats 6400000 in
theorem iFlaws_any {w : World} {ao po : Option Addr} {n cap m pc : Nat} {S : Nat → R.G} {Ru : Nat → U.G} {X : Nat → Int} (hX : IsNets S n X) (h : R.Rsp w (.slice ao n cap) n S) (hp : U.Rsp w (.slice po m pc) m Ru) (hn : n ≤ 1048576) (hm : m ≤ 1048576) (hcap : n ≤ cap) :
    Calls Try.prog 29 #[.slice ao n cap, .slice po m pc] w fun e w' => ∃ v, e = .returned (.agg #[.int .i64 (fcd S n Ru m), v]) ∧ OwnW w.heap.size w'.heap.size w' (fcd S n Ru m) v (fall S X Ru m n n) ∧ Below w.heap.size w w' := by
  have HX : Hid (IsNets S n X) := hX
  have HA : ∀ W, Below w.heap.size w W → Hid (R.Rsp W (.slice ao n cap) n S ∧ U.Rsp W (.slice po m pc) m Ru) := fun W hb => ⟨h.later hb, hp.later hb⟩
  have HN : Hid (n ≤ 1048576 ∧ n ≤ cap ∧ m ≤ 1048576) := ⟨hn, hcap, hm⟩
  clear h hp hX hn hcap hm
  go_enter Try.func29, Try.ntmps29
  go_wp2_with fail
  obtain ⟨w1, hw1⟩ : ∃ W, W = w.alloc (.cells #[.int .i64 0, .slice none 0 0] 45) := ⟨_, rfl⟩
  obtain ⟨p4, h4⟩ : ∃ p, p = w.heap.size := ⟨_, rfl⟩
  have H1 : Hid (Blk w1 p4 #[.int .i64 0, .slice none 0 0] 45 ∧ Below w.heap.size w w1 ∧ w.heap.size ≤ p4) := by rw [hw1]; exact ⟨Blk.new h4, box_stay (Below.refl _ _) _, by omega⟩
  rw [← hw1, ← h4]
  clear hw1 h4
  refine (iRects_any (HA _ H1.out.2.1).out.1 HN.out.1).mono ?_
  rintro e wA ⟨rfl, hbA⟩
  obtain ⟨c1, hc1⟩ : ∃ c, c = rcode S n := ⟨_, rfl⟩
  rw [← hc1]
  have HC1 : Hid (c1 = rcode S n) := hc1
  have HwA : Hid (Below w.heap.size w wA ∧ Blk wA p4 #[.int .i64 0, .slice none 0 0] 45) := ⟨H1.out.2.1.trans (hbA.mono H1.out.2.1.size), H1.out.1.old hbA⟩
  clear hc1 hbA
  go_wp2_with fail
  refine (iRules_any (HA _ HwA.out.1).out.2 HN.out.2.2).mono ?_
  rintro e wB ⟨rfl, hbB⟩
  obtain ⟨c2, hc2⟩ : ∃ c, c = ucode Ru m := ⟨_, rfl⟩
  rw [← hc2]
  have HC2 : Hid (c2 = ucode Ru m) := hc2
  have HwB : Hid (Below w.heap.size w wB ∧ Blk wB p4 #[.int .i64 0, .slice none 0 0] 45) := ⟨HwA.out.1.trans (hbB.mono HwA.out.1.size), HwA.out.2.old hbB⟩
  clear hc2 hbB
  go_wp2_with fail
  obtain ⟨wC, hwC⟩ : ∃ W, W = wB.alloc (.cells #[.int .i64 c1, .int .i64 c2] 2) := ⟨_, rfl⟩
  obtain ⟨pq, hpq⟩ : ∃ p, p = wB.heap.size := ⟨_, rfl⟩
  have HwC : Hid (Below w.heap.size w wC ∧ Blk wC p4 #[.int .i64 0, .slice none 0 0] 45 ∧ RdRow wC (.slice (some ⟨pq, 0, none⟩) 2 2) 2 (fun i => if i = 0 then c1 else c2)) := by
    refine ⟨by rw [hwC]; exact box_stay HwB.out.1 _, by rw [hwC]; exact HwB.out.2.alloc _, Or.inr ⟨pq, 0, 2, rfl, fun i hi => ?_⟩⟩
    have hb : Blk wC pq #[.int .i64 c1, .int .i64 c2] 2 := by rw [hwC]; exact Blk.new hpq
    rcases (show i = 0 ∨ i = 1 by omega) with rfl | rfl
    · exact hb.cell rfl
    · exact hb.cell rfl
  rw [← hwC, ← hpq]
  clear hwC hpq
  refine (or_any HwC.out.2.2 (by omega)).mono ?_
  rintro e w2 ⟨rfl, hb2⟩
  obtain ⟨c, hc⟩ : ∃ c, c = Mt.fst (fun i => if i = 0 then c1 else c2) 2 := ⟨_, rfl⟩
  rw [← hc]
  have HPC : Hid (fcd S n Ru m = c) := by
    show _ = _
    unfold fcd
    rw [← HC1.out, ← HC2.out, hc]
    by_cases q1 : c1 = 0
    · by_cases q2 : c2 = 0
      · simp [Mt.fst, q1, q2]
      · simp [Mt.fst, q1, q2]
    · simp [Mt.fst, q1]
  have HCZ : Hid (c = 0 → c1 = 0) := by
    intro e
    by_cases q1 : c1 = 0
    · exact q1
    · rw [hc] at e; simp [Mt.fst, q1] at e
  have H2 : Hid (Blk w2 p4 #[.int .i64 0, .slice none 0 0] 45 ∧ Below w.heap.size w w2) := ⟨HwC.out.2.1.old hb2, HwC.out.1.trans (hb2.mono HwC.out.1.size)⟩
  clear hc hb2
  by_cases hz : c = 0
  case neg =>
    have hzb : (c != 0) = true := by simpa using hz
    have HZ : Hid (c ≠ 0) := hz
    clear hz
    have e0 := H2.out.1.cell (j := 0) rfl
    have e1 := H2.out.1.cell (j := 1) rfl
    have ef : ∀ j, w2.frozen? ⟨p4, j, none⟩ = false := fun j => H2.out.1.frozen j
    obtain ⟨w4, hw4⟩ : ∃ W, W = (w2.setCell ⟨p4, 0, none⟩ (.int .i64 (c))).setCell ⟨p4, 1, none⟩ (.slice none 0 0) := ⟨_, rfl⟩
    have H4 : Hid (Blk w4 p4 #[.int .i64 (c), .slice none 0 0] 45 ∧ Below w.heap.size w w4 ∧ w4 = (w2.setCell ⟨p4, 0, none⟩ (.int .i64 (c))).setCell ⟨p4, 1, none⟩ (.slice none 0 0)) := ⟨by rw [hw4]; exact (H2.out.1.set 0 _ rfl).set 1 _ rfl, by rw [hw4]; exact (H2.out.2.setCell H1.out.2.2 _).setCell H1.out.2.2 _, hw4⟩
    clear hw4
    go_wp2_with fail
    rw [← H4.out.2.2]
    have s0 := H4.out.1.cell (j := 0) rfl
    have s1 := H4.out.1.cell (j := 1) rfl
    refine bodyPost_ret (v := .agg #[.int .i64 (c), .slice none 0 0]) (by simp [results, Try.results29, go_sem, s0, s1]) rfl (by rw [HPC.out]; exact ⟨_, rfl, Or.inl ⟨HZ.out, rfl⟩, H4.out.2.1⟩)
  case pos =>
  have hzb : (c != 0) = false := by simpa using hz
  have HK := rcode_ok (S := S) (n := n) (by rw [← HC1.out]; exact HCZ.out hz)
  have HK2 : Hid _ := HK
  have hnI : (n : Int) ≤ 60 := by have := HK.1; omega
  subst hz
  clear HK
  go_upto_region 5 with fail
  obtain ⟨wa, hwa⟩ : ∃ W, W = w2.alloc (.cells #[.int .i64 0, .slice none 0 0] 45) := ⟨_, rfl⟩
  obtain ⟨p6, h6⟩ : ∃ p, p = w2.heap.size := ⟨_, rfl⟩
  have HAa : Hid (Blk wa p4 #[.int .i64 0, .slice none 0 0] 45 ∧ Blk wa p6 #[.int .i64 0, .slice none 0 0] 45 ∧ Below w.heap.size w wa ∧ p4 ≠ p6 ∧ w.heap.size ≤ p6) := ⟨by rw [hwa]; exact H2.out.1.alloc _, by rw [hwa]; exact Blk.new h6, by rw [hwa]; exact box_stay H2.out.2 _, by have := H2.out.1.lt; omega, by have := H2.out.2.size; omega⟩
  rw [← hwa, ← h6]
  clear hwa h6
  go_wp2_with fail
  refine (netNum_any (HA _ HAa.out.2.2.1).out.1 HK2.out.2 HK2.out.1 HN.out.2.1).mono ?_
  rintro e w3 ⟨v, Y, rfl, ho, hN, hb3⟩
  rw [fints_congr (HX.out Y hN)] at ho
  obtain ⟨va, vc, ev⟩ : ∃ ao cap, v = .slice ao n cap := by
    obtain ⟨a, c, e, _⟩ := ho.form
    rw [fints_len] at e
    exact ⟨a, c, e⟩
  subst ev
  obtain ⟨L0, hL0⟩ : ∃ L, L = w3.heap.size := ⟨_, rfl⟩
  have HS : Hid (Fst w w3 p4 p6 L0 (.slice va n vc) (.slice none 0 0) n X (fall S X Ru m n 0)) := ⟨HAa.out.1.old hb3, HAa.out.2.1.old hb3, ho.low (by have := HAa.out.2.1.lt; exact this), Wl.nil _ _, fun g hg => by rw [hL0]; exact (ho.lt g hg).2, HAa.out.2.2.1.trans (hb3.mono HAa.out.2.2.1.size), by rw [hL0]; exact Nat.le_refl _, by have := (HAa.out.1.old hb3).lt; omega, by have := (HAa.out.2.1.old hb3).lt; omega, HAa.out.2.2.2.1, H1.out.2.2, HAa.out.2.2.2.2⟩
  clear ho hN hb3 hL0
  go_wp2_with fail
  go_loopw [24] (fun i wr => ∃ (k : Nat) (vl : Value), k ≤ n ∧ i = .int .i64 k ∧ Hid (Fst w wr p4 p6 L0 (.slice va n vc) vl n X (fall S X Ru m n k))) (fun i _ => n - (intOf i).toNat)
  case atStart => exact ⟨0, _, Nat.zero_le _, rfl, HS⟩
  case round =>
    clear HS
    obtain ⟨k, vl, hk, rfl, HH⟩ := hrel
    by_cases hkn : k < n
    · have hkI : (k : Int) < n := by omega
      obtain ⟨b, off, hao, hc⟩ := (HA wr HH.out.be).out.1.at hkn
      subst hao
      obtain ⟨x, hx⟩ : ∃ x, x = S k := ⟨_, rfl⟩
      rw [← hx] at hc
      have c0 : wr.cell? ⟨b, off + k * 5, none⟩ = some (.int .i64 x.ly) := hc 0 (by omega)
      have c1 : wr.cell? ⟨b, off + k * 5 + 1, none⟩ = some (.int .i64 x.xa) := hc 1 (by omega)
      have c2 : wr.cell? ⟨b, off + k * 5 + 2, none⟩ = some (.int .i64 x.ya) := hc 2 (by omega)
      have c3 : wr.cell? ⟨b, off + k * 5 + 3, none⟩ = some (.int .i64 x.xb) := hc 3 (by omega)
      have c4 : wr.cell? ⟨b, off + k * 5 + 4, none⟩ = some (.int .i64 x.yb) := hc 4 (by omega)
      have HXX : Hid (x = S k) := hx
      clear hx hc
      go_upto_region 9 with fail
      obtain ⟨wx, hwx⟩ : ∃ W, W = wr.alloc (.cells #[.int .i64 x.ly, .int .i64 x.xa, .int .i64 x.ya, .int .i64 x.xb, .int .i64 x.yb] 68) := ⟨_, rfl⟩
      obtain ⟨p9, h9⟩ : ∃ p, p = wr.heap.size := ⟨_, rfl⟩
      have HB : Hid (Fst w wx p4 p6 L0 (.slice va n vc) vl n X (fall S X Ru m n k) ∧ Blk wx p9 #[.int .i64 x.ly, .int .i64 x.xa, .int .i64 x.ya, .int .i64 x.xb, .int .i64 x.yb] 68) := ⟨by rw [hwx]; exact HH.out.later ((Below.refl _ _).alloc (Nat.le_refl _) _), by rw [hwx]; exact Blk.new h9⟩
      rw [← hwx, ← h9]
      clear hwx h9 c0 c1 c2 c3 c4
      obtain ⟨la, lc, ev⟩ := HB.out.1.li.form
      subst ev
      obtain ⟨N0, hN0⟩ : ∃ N, N = (fall S X Ru m n k).length := ⟨_, rfl⟩
      rw [← hN0] at HB
      have HL : Hid (N0 = (fall S X Ru m n k).length ∧ N0 ≤ 1000000) := ⟨hN0, by rw [hN0]; have h1 := fall_len (S := S) (X := X) (Ru := Ru) (m := m) (n := n) k; have h2 := Nat.mul_le_mul (show k ≤ 60 by omega) (show n + 1 ≤ 61 by omega); omega⟩
      clear hN0
      have K6 : ∀ W, Below wx.heap.size wx W → W.cell? ⟨p6, 1, none⟩ = some (.slice la N0 lc) := fun W h => (HB.out.1.b6.old h).cell rfl
      have K9 : ∀ W, Below wx.heap.size wx W → W.cell? ⟨p9, 0, none⟩ = some (.int .i64 x.ly) := fun W h => (HB.out.2.old h).cell rfl
      obtain ⟨r0, hr0⟩ : ∃ r, r = frl Ru m x.ly := ⟨_, rfl⟩
      have HR0 : Hid (r0 = frl Ru m x.ly) := hr0
      clear hr0
      have HCR : ∀ W, Below wx.heap.size wx W → Calls Try.prog 70 #[.slice po m pc, .int .i64 x.ly] W fun e w' => e = .returned (.agg #[.int .i64 r0.ly, .int .i64 r0.wd, .int .i64 r0.sp]) ∧ Below W.heap.size W w' := fun W hb => by
        rw [HR0.out]
        exact iRule_any (HA W (HB.out.1.be.trans (hb.mono HB.out.1.be.size))).out.2 HN.out.2.2 x.ly
      have HCF : ∀ W, Below wx.heap.size wx W → Calls Try.prog 69 #[.slice (some ⟨b, off, none⟩) n cap, .slice va n vc, .int .i64 (k : Int), .agg #[.int .i64 r0.ly, .int .i64 r0.wd, .int .i64 r0.sp]] W fun e w' => ∃ v, e = .returned v ∧ Wl w' W.heap.size v (fj S X r0 k n) ∧ Below W.heap.size W w' := fun W hb =>
        iFrom_any (HA W (HB.out.1.be.trans (hb.mono HB.out.1.be.size))).out.1 (rdOl (HB.out.1.nets.later hb)) HK2.out.2 HK2.out.1 hkn r0
      refine wp_region_sd_last3 (by kernel_rfl) rfl rfl rfl rfl (lastC_of 4 (by kernel_rfl)) (lastOk_of (by kernel_rfl)) (lastOk_of (by kernel_rfl)) [29, 30, 31, 32, 33, 34, 35, 36, 37, 38] (fun i v W ts te => match i with
        | 0 => v = .pointer (some ⟨p6, 1, none⟩)
        | 1 => v = .slice la N0 lc
        | 2 => v = .slice (some ⟨b, off, none⟩) n cap
        | 3 => v = .slice va n vc
        | 4 => v = .int .i64 (k : Int)
        | 5 => v = .slice po m pc
        | 6 => v = .pointer (some ⟨p9, 0, none⟩)
        | 7 => v = .int .i64 x.ly
        | 8 => v = .agg #[.int .i64 r0.ly, .int .i64 r0.wd, .int .i64 r0.sp]
        | 9 => Wl W wx.heap.size v (fj S X r0 k n)
        | _ => True) (reg_ok (n := 43) (by decide +kernel)) ?_ ?_ ?_
      · intro i v W W2 ts te us ue hag h hb
        rcases (show i = 0 ∨ i = 1 ∨ i = 2 ∨ i = 3 ∨ i = 4 ∨ i = 5 ∨ i = 6 ∨ i = 7 ∨ i = 8 ∨ i = 9 ∨ 10 ≤ i by omega) with rfl | rfl | rfl | rfl | rfl | rfl | rfl | rfl | rfl | rfl | hbig
        · exact h
        · exact h
        · exact h
        · exact h
        · exact h
        · exact h
        · exact h
        · exact h
        · exact h
        · exact Wl.later h hb
        · match i, hbig with | k + 10, _ => exact trivial
      · intro i o ho bb W ts te hB hbase hdep Q1 K hK
        replace hK : Hid _ := hK
        have hlt : i < 10 := by have := (List.getElem?_eq_some_iff.1 ho).1; simpa using this
        have bse0 : bb.tmps[0]?.getD undef = .slice (some ⟨b, off, none⟩) n cap := (hbase 0 (by decide)).trans rfl
        have bse1 : bb.tmps[1]?.getD undef = .slice po m pc := (hbase 1 (by decide)).trans rfl
        have bse6 : bb.tmps[6]?.getD undef = .pointer (some ⟨p6, 0, none⟩) := (hbase 6 (by decide)).trans rfl
        have bse7 : bb.tmps[7]?.getD undef = .slice va n vc := (hbase 7 (by decide)).trans rfl
        have bse8 : bb.tmps[8]?.getD undef = .int .i64 (k : Int) := (hbase 8 (by decide)).trans rfl
        have bse9 : bb.tmps[9]?.getD undef = .pointer (some ⟨p9, 0, none⟩) := (hbase 9 (by decide)).trans rfl
        clear hbase
        rcases (show i = 0 ∨ i = 1 ∨ i = 2 ∨ i = 3 ∨ i = 4 ∨ i = 5 ∨ i = 6 ∨ i = 7 ∨ i = 8 ∨ i = 9 by omega) with rfl | rfl | rfl | rfl | rfl | rfl | rfl | rfl | rfl | rfl
        · simp at ho
          subst ho
          clear hdep
          go_simp
          exact hK.out _ _ (Below.refl _ _) (fun us ue hag hs he => rfl)
        · simp at ho
          subst ho
          have d0 := hdep ⟨0, .data⟩ (by simp) (by decide)
          replace d0 : (fun (v : Value) (W : World) (ts te : Nat → Nat) => v = .pointer (some ⟨p6, 1, none⟩)) (bb.tmps[29]?.getD undef) W ts te := d0
          dsimp only at d0
          clear hdep
          have hc : W.cell? ⟨p6, 1, none⟩ = some (.slice la N0 lc) := K6 W hB
          go_simp
          exact hK.out _ _ (Below.refl _ _) (fun us ue hag hs he => rfl)
        · simp at ho
          subst ho
          clear hdep
          go_simp
          exact hK.out _ _ (Below.refl _ _) (fun us ue hag hs he => rfl)
        · simp at ho
          subst ho
          clear hdep
          go_simp
          exact hK.out _ _ (Below.refl _ _) (fun us ue hag hs he => rfl)
        · simp at ho
          subst ho
          clear hdep
          go_simp
          exact hK.out _ _ (Below.refl _ _) (fun us ue hag hs he => rfl)
        · simp at ho
          subst ho
          clear hdep
          go_simp
          exact hK.out _ _ (Below.refl _ _) (fun us ue hag hs he => rfl)
        · simp at ho
          subst ho
          clear hdep
          go_simp
          exact hK.out _ _ (Below.refl _ _) (fun us ue hag hs he => rfl)
        · simp at ho
          subst ho
          have d6 := hdep ⟨6, .data⟩ (by simp) (by decide)
          replace d6 : (fun (v : Value) (W : World) (ts te : Nat → Nat) => v = .pointer (some ⟨p9, 0, none⟩)) (bb.tmps[35]?.getD undef) W ts te := d6
          dsimp only at d6
          clear hdep
          have hc : W.cell? ⟨p9, 0, none⟩ = some (.int .i64 x.ly) := K9 W hB
          go_simp
          exact hK.out _ _ (Below.refl _ _) (fun us ue hag hs he => rfl)
        · simp at ho
          subst ho
          have d5 := hdep ⟨5, .data⟩ (by simp) (by decide)
          replace d5 : (fun (v : Value) (W : World) (ts te : Nat → Nat) => v = .slice po m pc) (bb.tmps[34]?.getD undef) W ts te := d5
          dsimp only at d5
          have d7 := hdep ⟨7, .data⟩ (by simp) (by decide)
          replace d7 : (fun (v : Value) (W : World) (ts te : Nat → Nat) => v = .int .i64 x.ly) (bb.tmps[36]?.getD undef) W ts te := d7
          dsimp only at d7
          clear hdep
          go_simp
          go_at_call 70
          refine (HCR W hB).mono ?_
          rintro e W2 ⟨rfl, hb⟩
          exact hK.out _ _ hb (fun us ue hag hs he => rfl)
        · simp at ho
          subst ho
          have d2 := hdep ⟨2, .data⟩ (by simp) (by decide)
          replace d2 : (fun (v : Value) (W : World) (ts te : Nat → Nat) => v = .slice (some ⟨b, off, none⟩) n cap) (bb.tmps[31]?.getD undef) W ts te := d2
          dsimp only at d2
          have d3 := hdep ⟨3, .data⟩ (by simp) (by decide)
          replace d3 : (fun (v : Value) (W : World) (ts te : Nat → Nat) => v = .slice va n vc) (bb.tmps[32]?.getD undef) W ts te := d3
          dsimp only at d3
          have d4 := hdep ⟨4, .data⟩ (by simp) (by decide)
          replace d4 : (fun (v : Value) (W : World) (ts te : Nat → Nat) => v = .int .i64 (k : Int)) (bb.tmps[33]?.getD undef) W ts te := d4
          dsimp only at d4
          have d8 := hdep ⟨8, .data⟩ (by simp) (by decide)
          replace d8 : (fun (v : Value) (W : World) (ts te : Nat → Nat) => v = .agg #[.int .i64 r0.ly, .int .i64 r0.wd, .int .i64 r0.sp]) (bb.tmps[37]?.getD undef) W ts te := d8
          dsimp only at d8
          clear hdep
          go_simp
          go_at_call 69
          refine (HCF W hB).mono ?_
          rintro e W2 ⟨v, rfl, ho, hb⟩
          exact hK.out _ _ hb (fun us ue hag hs he => ho.low hB.size)
      · intro vs ts te W hB hP hD
        have v0 := hP 0 (by decide)
        replace v0 : (fun (v : Value) (W : World) (ts te : Nat → Nat) => v = .pointer (some ⟨p6, 1, none⟩)) (vs 0) W ts te := v0
        dsimp only at v0
        have v1 := hP 1 (by decide)
        replace v1 : (fun (v : Value) (W : World) (ts te : Nat → Nat) => v = .slice la N0 lc) (vs 1) W ts te := v1
        dsimp only at v1
        have v2 := hP 2 (by decide)
        replace v2 : (fun (v : Value) (W : World) (ts te : Nat → Nat) => v = .slice (some ⟨b, off, none⟩) n cap) (vs 2) W ts te := v2
        dsimp only at v2
        have v3 := hP 3 (by decide)
        replace v3 : (fun (v : Value) (W : World) (ts te : Nat → Nat) => v = .slice va n vc) (vs 3) W ts te := v3
        dsimp only at v3
        have v4 := hP 4 (by decide)
        replace v4 : (fun (v : Value) (W : World) (ts te : Nat → Nat) => v = .int .i64 (k : Int)) (vs 4) W ts te := v4
        dsimp only at v4
        have v5 := hP 5 (by decide)
        replace v5 : (fun (v : Value) (W : World) (ts te : Nat → Nat) => v = .slice po m pc) (vs 5) W ts te := v5
        dsimp only at v5
        have v6 := hP 6 (by decide)
        replace v6 : (fun (v : Value) (W : World) (ts te : Nat → Nat) => v = .pointer (some ⟨p9, 0, none⟩)) (vs 6) W ts te := v6
        dsimp only at v6
        have v7 := hP 7 (by decide)
        replace v7 : (fun (v : Value) (W : World) (ts te : Nat → Nat) => v = .int .i64 x.ly) (vs 7) W ts te := v7
        dsimp only at v7
        have v8 := hP 8 (by decide)
        replace v8 : (fun (v : Value) (W : World) (ts te : Nat → Nat) => v = .agg #[.int .i64 r0.ly, .int .i64 r0.wd, .int .i64 r0.sp]) (vs 8) W ts te := v8
        dsimp only at v8
        have v9 := hP 9 (by decide)
        replace v9 : (fun (v : Value) (W : World) (ts te : Nat → Nat) => Wl W wx.heap.size v (fj S X r0 k n)) (vs 9) W ts te := v9
        dsimp only at v9
        clear hP
        simp only [putD, Act.put, List.setIfInBounds_toArray, List.set_cons_succ, List.set_cons_zero, Nat.reduceAdd]
        rw [v0, v1, v2, v3, v4, v5, v6, v7, v8]
        obtain ⟨vf, hvf⟩ : ∃ v, v = vs 9 := ⟨_, rfl⟩
        rw [← hvf] at v9
        rw [← hvf]
        have HF : Hid (Fst w W p4 p6 L0 (.slice va n vc) (.slice la N0 lc) n X (fall S X Ru m n k)) := HB.out.1.later hB
        obtain ⟨fa, fc, ef0⟩ := v9.form
        subst ef0
        have HV9 : Hid (Wl W wx.heap.size (.slice fa (fj S X r0 k n).length fc) (fj S X r0 k n)) := v9
        have HLF : Hid ((fj S X r0 k n).length ≤ 1000000) := (show _ ≤ _ from by have := fj_len (S := S) (X := X) (r := r0) (i := k) n; have := HK2.out.1; omega)
        clear v0 v1 v2 v3 v4 v5 v6 v7 v8 v9 hvf hB hD K6 K9 HCR HCF
        simp only [List.dropLast, List.getLast, List.getLast_cons_cons, List.getLast_singleton]
        refine pushFw rfl (.tmp 30) (.tmp 38) rfl W L0 wx.heap.size (.slice la N0 lc) (.slice fa (fj S X r0 k n).length fc) (fall S X Ru m n k) (fj S X r0 k n) (by simp [Act.eval]) HF.out.li (by simp [Act.eval]) HV9.out (by have := HL.out.1; have := HL.out.2; omega) HLF.out HF.out.sz ?_
        intro v8 w8 ho8 hb8
        have H8 : Hid (Fst1 w w8 p4 p6 L0 (.slice va n vc) v8 (.slice la N0 lc) n X (fall S X Ru m n (k + 1))) := HF.out.push hb8 (by show Wl w8 L0 v8 (fall S X Ru m n k ++ fj S X (frl Ru m (S k).ly) k n); rw [← HXX.out, ← HR0.out]; exact ho8)
        obtain ⟨oa, oc, e8⟩ := ho8.form
        subst e8
        obtain ⟨N1, hN1⟩ : ∃ N, N = (fall S X Ru m n k ++ fj S X r0 k n).length := ⟨_, rfl⟩
        rw [← hN1] at H8 ⊢
        have e0 := H8.out.b6.cell (j := 0) rfl
        have e1 := H8.out.b6.cell (j := 1) rfl
        have ef : ∀ j, w8.frozen? ⟨p6, j, none⟩ = false := fun j => H8.out.b6.frozen j
        clear ho8 hb8 hN1
        go_wp2
        go_roundw
        case rel => exact ⟨k + 1, _, by omega, by simp, H8.out.stored⟩
        case measure => simp [intOf]; omega
    · obtain rfl : n = k := by omega
      obtain ⟨la, lc, ev⟩ := HH.out.li.form
      subst ev
      obtain ⟨N0, hN0⟩ : ∃ N, N = (fall S X Ru m n n).length := ⟨_, rfl⟩
      rw [← hN0] at HH
      have g0 := HH.out.b6.cell (j := 0) rfl
      have g1 := HH.out.b6.cell (j := 1) rfl
      have e0 := HH.out.b4.cell (j := 0) rfl
      have e1 := HH.out.b4.cell (j := 1) rfl
      have ef : ∀ j, wr.frozen? ⟨p4, j, none⟩ = false := fun j => HH.out.b4.frozen j
      obtain ⟨w4, hw4⟩ : ∃ W, W = (wr.setCell ⟨p4, 0, none⟩ (.int .i64 0)).setCell ⟨p4, 1, none⟩ (.slice la N0 lc) := ⟨_, rfl⟩
      have H4 : Hid (Blk w4 p4 #[.int .i64 0, .slice la N0 lc] 45 ∧ Below w.heap.size w w4 ∧ OwnW w.heap.size w4.heap.size w4 0 (.slice la N0 lc) (fall S X Ru m n n) ∧ w4 = (wr.setCell ⟨p4, 0, none⟩ (.int .i64 0)).setCell ⟨p4, 1, none⟩ (.slice la N0 lc)) := by
        refine ⟨by rw [hw4]; exact (HH.out.b4.set 0 _ rfl).set 1 _ rfl, by rw [hw4]; exact (HH.out.be.setCell H1.out.2.2 _).setCell H1.out.2.2 _, ?_, hw4⟩
        have hz4 : w4.heap.size = wr.heap.size := by rw [hw4]; simp
        refine Or.inr ⟨rfl, Wl.owj ((HH.out.li.keepOn fun g hg => ?_).low (by have := HH.out.l4; have := HH.out.w4; omega)) (Nat.le_refl _)⟩
        have hpg : g ≠ p4 := by have := (HH.out.li.lt g hg).1; have := HH.out.l4; omega
        rw [hw4, Below.heap_setCell _ _ _ _ (by simpa using hpg), Below.heap_setCell _ _ _ _ (by simpa using hpg)]
      clear hw4 hN0
      go_wp2_with fail
      rw [← H4.out.2.2.2]
      have s0 := H4.out.1.cell (j := 0) rfl
      have s1 := H4.out.1.cell (j := 1) rfl
      refine bodyPost_ret (v := .agg #[.int .i64 0, .slice la N0 lc]) (by simp [results, Try.results29, go_sem, s0, s1]) rfl (by rw [HPC.out]; exact ⟨_, rfl, H4.out.2.2.1, H4.out.2.1⟩)
end Go.Proofs.Ytclnmikneomccaa
