/- Aims and lists of them: what is read, what is owned; the laws' own copies, counts and comparisons. -/
import Derived.Test.YtelejihgechmgaaPl
import Derived.Test.YtelejihgechmgaaAp
import Derived.Test.YtelejihgechmgaaVr
import Derived.Deep.DeepCutAuto
namespace Go.Proofs.Ytelejihgechmgaa
open Go.RowKit
set_option linter.unusedVariables false
set_option linter.unusedSimpArgs false
abbrev Li := Mt.Am
/-- An aim's cells; pv: its row's slice. -/
def lcell (x : Li) (pv : Value) : Nat → Value
  | 0 => pv
  | _ => .int .i64 x.want
def zl : Li := ⟨0, fun _ => 0, 0⟩
/-- v is a list of n aims, to be read. -/
def RdL (w : World) (v : Value) (n : Nat) (L : Nat → Li) : Prop := ∃ PV : Nat → Value, RdV w v n 2 (fun i j => lcell (L i) (PV i) j) ∧ ∀ i, i < n → RdRow w (PV i) (L i).np (L i).p
theorem RdL.later {w w' : World} {v : Value} {n : Nat} {L : Nat → Li} (h : RdL w v n L) (hb : Below w.heap.size w w') : RdL w' v n L := by
  obtain ⟨PV, h1, h2⟩ := h
  exact ⟨PV, h1.later hb, fun i hi => (h2 i hi).later hb⟩
theorem RdL.shape {w : World} {v : Value} {n : Nat} {L : Nat → Li} (h : RdL w v n L) : ∃ ao cap, v = .slice ao n cap := by
  obtain ⟨PV, h1, h2⟩ := h
  exact h1.form
theorem RdL.at {w : World} {ao : Option Addr} {n cap : Nat} {L : Nat → Li} (h : RdL w (.slice ao n cap) n L) {k : Nat} (hk : k < n) :
    ∃ b off po pc, ao = some ⟨b, off, none⟩ ∧ (∀ j, j < 2 → w.cell? ⟨b, off + k * 2 + j, none⟩ = some (lcell (L k) (.slice po (L k).np pc) j)) ∧ RdRow w (.slice po (L k).np pc) (L k).np (L k).p := by
  obtain ⟨PV, h1, h2⟩ := h
  obtain ⟨b, off, e, hc⟩ := h1.at hk
  have h3 := h2 k hk
  obtain ⟨po, pc, ep⟩ := h3.shape
  refine ⟨b, off, po, pc, e, fun j hj => ?_, by rw [← ep]; exact h3⟩
  rw [← ep]; exact hc j hj
/-- A list of aims that owns its block g and a block for each path, from lo on, below hi. -/
def OwLs (lo hi : Nat) (w : World) (g n : Nat) (L : Nat → Li) : Prop :=
  ∃ PB PC : Nat → Nat, lo ≤ g ∧ g < hi ∧ SegV w g 91 n 2 (fun i j => lcell (L i) (.slice (some ⟨PB i, 0, none⟩) (L i).np (PC i)) j) ∧ (∀ i, i < n → lo ≤ PB i ∧ PB i < hi ∧ Seg w (PB i) 2 0 (L i).np (fun k => .int .i64 ((L i).p k))) ∧ ∀ i j, i < n → j < n → PB i = PB j → i = j
theorem OwLs.rd {lo hi : Nat} {w : World} {g n cap : Nat} {L : Nat → Li} (h : OwLs lo hi w g n L) : RdL w (.slice (some ⟨g, 0, none⟩) n cap) n L := by
  obtain ⟨PB, PC, h1, h2, h3, h4, h5⟩ := h
  exact ⟨fun i => .slice (some ⟨PB i, 0, none⟩) (L i).np (PC i), h3.rd, fun i hi => (h4 i hi).2.2.rd⟩
theorem OwLs.keep {lo hi : Nat} {w w' : World} {g n : Nat} {L : Nat → Li} (h : OwLs lo hi w g n L) (hk : Keep lo hi w w') : OwLs lo hi w' g n L := by
  obtain ⟨PB, PC, h1, h2, h3, h4, h5⟩ := h
  exact ⟨PB, PC, h1, h2, h3.of_block (hk g h1 h2), fun i hi => ⟨(h4 i hi).1, (h4 i hi).2.1, (h4 i hi).2.2.of_block (hk _ (h4 i hi).1 (h4 i hi).2.1)⟩, h5⟩
/-- The numbers of lights that come in are numbers. -/
def LBd (n : Nat) (L : Nat → Li) : Prop := ∀ i, i < n → (L i).np ≤ 9223372036854775807 ∧ -9223372036854775808 ≤ (L i).want ∧ (L i).want ≤ 9223372036854775807
/-- How many numbers all paths together have. -/
abbrev LSm (L : Nat → Li) (n : Nat) : Nat := Sm (fun i => (L i).np) n
structure LFew (n : Nat) (L : Nat → Li) : Prop where
  cn : n ≤ 1048576
  cs : LSm L n ≤ 1048576
theorem LFew.each {n : Nat} {L : Nat → Li} (h : LFew n L) {i : Nat} (hi : i < n) : (L i).np ≤ 1048576 := Nat.le_trans (le_Sm (L := fun i => (L i).np) hi) h.cs
/-- What is left of so many places. -/
def ToldL (n : Nat) (L : Nat → Li) (left r : Int) : Prop := r = -1 ∨ (0 ≤ r ∧ r = left - n - LSm L n)
theorem ToldL.ok {n : Nat} {L : Nat → Li} {left r : Int} (h : ToldL n L left r) (k : ¬ r < 0) : (n : Int) + LSm L n ≤ left := by
  rcases h with h | h <;> omega
theorem ToldL.le {n : Nat} {L : Nat → Li} {left r : Int} (h : ToldL n L left r) (k : ¬ r < 0) : r ≤ left := by
  rcases h with h | h <;> omega
set_option maxRecDepth 20000 in
set_option maxHeartbeats 1600000 in
theorem szLit_any (x : Li) (po : Option Addr) (n pc : Nat) (left : Int) (w : World) (h0 : 0 ≤ left) (h1 : left ≤ 1048576) (hn : n ≤ 9223372036854775807) :
    Calls Try.prog 65 #[.agg #[.slice po n pc, .int .i64 x.want], .int .i64 left] w fun e w' => e = .returned (.int .i64 (if left - n < 0 then -1 else left - n)) ∧ Below w.heap.size w w' := by
  by_cases h : left - n < 0
  · rw [if_pos h]
    go_enter Try.func65, Try.ntmps65
    go_wp2_with fail
    refine (szS_any _ _ _ left _ h0 h1 hn).mono ?_
    rintro e w1 ⟨rfl, rfl⟩
    rw [if_pos h]
    go_wp2
    go_ret
    exact ⟨rfl, by go_grown⟩
  · rw [if_neg h]
    go_enter Try.func65, Try.ntmps65
    go_wp2_with fail
    refine (szS_any _ _ _ left _ h0 h1 hn).mono ?_
    rintro e w1 ⟨rfl, rfl⟩
    rw [if_neg (by omega)]
    go_wp2
    go_ret
    exact ⟨rfl, by go_grown⟩
set_option maxRecDepth 20000 in
set_option maxHeartbeats 3200000 in
theorem szLits_any {w : World} {ao : Option Addr} {n cap : Nat} {L : Nat → Li} (h : RdL w (.slice ao n cap) n L) (left : Int) (h0 : 0 ≤ left) (h1 : left ≤ 1048576) (hn : n ≤ 9223372036854775807) (hB : LBd n L) :
    Calls Try.prog 28 #[.slice ao n cap, .int .i64 left] w fun e w' => ∃ r, e = .returned (.int .i64 r) ∧ ToldL n L left r ∧ Below w.heap.size w w' := by
  have H : ∀ W, Below w.heap.size w W → Hid (RdL W (.slice ao n cap) n L) := fun W hb => h.later hb
  have HBd : Hid (LBd n L) := hB
  clear h hB
  by_cases hs : left - n < 0
  · go_enter Try.func28, Try.ntmps28
    go_wp2
    go_ret
    exact ⟨-1, rfl, Or.inl rfl, Below.refl _ _⟩
  obtain ⟨l0, hl0⟩ : ∃ l : Int, l = left - n := ⟨_, rfl⟩
  have HL0 : Hid (l0 = left - n) := hl0
  have hnI : (n : Int) ≤ 1048576 := by omega
  have hl1 : l0 ≤ 1048576 := by omega
  have hl2 : 0 ≤ l0 := by omega
  go_enter Try.func28, Try.ntmps28
  go_wp2_with fail
  rw [← hl0]
  clear hl0 hs
  go_loopw [1, 5] (fun u i wr => ∃ (k : Nat) (s : Int), k ≤ n ∧ i = .int .i64 k ∧ u = .int .i64 s ∧ 0 ≤ s ∧ s ≤ 1048576 ∧ Hid (s = l0 - LSm L k) ∧ Hid (Below w.heap.size w wr)) (fun _ i _ => n - (intOf i).toNat)
  case atStart => exact ⟨0, l0, Nat.zero_le _, rfl, rfl, hl2, hl1, by show l0 = l0 - ((0 : Nat) : Int); simp, Below.refl _ _⟩
  case round =>
    obtain ⟨k, s, hk, rfl, rfl, hs0, hs1, HS, HB⟩ := hrel
    by_cases hkn : k < n
    · obtain ⟨b, off, po, pc, rfl, hc, hp⟩ := (H wr HB.out).out.at hkn
      obtain ⟨x, hx⟩ : ∃ x, x = L k := ⟨_, rfl⟩
      obtain ⟨m, hm⟩ : ∃ m, m = (L k).np := ⟨_, rfl⟩
      have hmb : m ≤ 9223372036854775807 := by rw [hm]; exact (HBd.out k hkn).1
      have HM : Hid (LSm L (k + 1) = LSm L k + m) := by show LSm L k + (L k).np = _; rw [hm]
      rw [← hm, ← hx] at hc
      have g0 : wr.cell? ⟨b, off + k * 2, none⟩ = some (.slice po m pc) := by first | exact hc 0 (by omega) | simpa [lcell] using hc 0 (by omega)
      have g1 : wr.cell? ⟨b, off + k * 2 + 1, none⟩ = some (.int .i64 x.want) := by first | exact hc 1 (by omega) | simpa [lcell] using hc 1 (by omega)
      clear hc hp hx hm H
      by_cases hq : s - m < 0
      · go_wp2_with fail
        refine (szLit_any x po m pc s _ hs0 hs1 hmb).mono ?_
        rintro e w1 ⟨rfl, hb1⟩
        rw [if_pos hq]
        clear g0 g1
        go_wp2
        go_ret
        exact ⟨-1, rfl, Or.inl rfl, HB.out.trans (hb1.mono HB.out.size)⟩
      · obtain ⟨s2, hs2⟩ : ∃ s2 : Int, s2 = s - m := ⟨_, rfl⟩
        have HS2 : Hid (s2 = l0 - LSm L (k + 1)) := by show s2 = _; rw [HM.out, hs2]; have := HS.out; omega
        have hs20 : 0 ≤ s2 := by omega
        have hs21 : s2 ≤ 1048576 := by omega
        go_wp2_with fail
        refine (szLit_any x po m pc s _ hs0 hs1 hmb).mono ?_
        rintro e w1 ⟨rfl, hb1⟩
        rw [if_neg (by omega), ← hs2]
        clear g0 g1 hs2 hq
        go_wp2
        go_roundw
        case rel => exact ⟨k + 1, s2, by omega, by simp, rfl, hs20, hs21, HS2, HB.out.trans (hb1.mono HB.out.size)⟩
        case measure => simp [intOf]; omega
    · obtain rfl : k = n := by omega
      clear H
      go_wp2
      go_ret
      exact ⟨s, rfl, Or.inr ⟨hs0, by rw [← HL0.out]; exact HS.out⟩, HB.out⟩
set_option maxRecDepth 20000 in
set_option maxHeartbeats 3200000 in
theorem toLit_any (x : Li) {po : Option Addr} {n pc : Nat} {p : Nat → Int} {w : World} (h : RdRow w (.slice po n pc) n p) (hn : n ≤ 1048576) :
    Calls Try.prog 66 #[.agg #[.slice po n pc, .int .i64 x.want]] w fun e w' => ∃ g, e = .returned (.agg #[.slice (some ⟨g, 0, none⟩) n n, .int .i64 x.want]) ∧ w.heap.size ≤ g ∧ g < w'.heap.size ∧ Seg w' g 2 0 n (fun i => .int .i64 (p i)) ∧ Below w.heap.size w w' := by
  have H0 : ∀ W, Below w.heap.size w W → Hid (RdRow W (.slice po n pc) n p) := fun W hb => h.later hb
  clear h
  go_enter Try.func66, Try.ntmps66
  go_wp2_with fail
  refine (toS_any (H0 _ (by go_grown)).out (by omega)).mono ?_
  rintro e w1 ⟨rfl, hs, hb, hz⟩
  have hB : Below w.heap.size w w1 := by refine box_step ?_ hb (by simp); go_grown
  have a0 : w1.cell? ⟨w.heap.size, 0, none⟩ = some (.slice po n pc) := (hb.cell (p := ⟨w.heap.size, 0, none⟩) (by first | (simp; done) | (simp; omega))).trans (by go_simp)
  have a1 : w1.cell? ⟨w.heap.size, 1, none⟩ = some (.int .i64 x.want) := (hb.cell (p := ⟨w.heap.size, 1, none⟩) (by first | (simp; done) | (simp; omega))).trans (by go_simp)
  have r0 : w1.cell? ⟨w.heap.size + 1, 0, none⟩ = some (.slice none 0 0) := (hb.cell (p := ⟨w.heap.size + 1, 0, none⟩) (by first | (simp; done) | (simp; omega))).trans (by go_simp)
  have r1 : w1.cell? ⟨w.heap.size + 1, 1, none⟩ = some (.int .i64 0) := (hb.cell (p := ⟨w.heap.size + 1, 1, none⟩) (by first | (simp; done) | (simp; omega))).trans (by go_simp)
  have t0 : w1.cell? ⟨w.heap.size + 1 + 1, 0, none⟩ = some (.slice none 0 0) := (hb.cell (p := ⟨w.heap.size + 1 + 1, 0, none⟩) (by first | (simp; done) | (simp; omega))).trans (by go_simp)
  have t1 : w1.cell? ⟨w.heap.size + 1 + 1, 1, none⟩ = some (.int .i64 0) := (hb.cell (p := ⟨w.heap.size + 1 + 1, 1, none⟩) (by first | (simp; done) | (simp; omega))).trans (by go_simp)
  have fr1 : ∀ j, w1.frozen? ⟨w.heap.size + 1, j, none⟩ = false := fun j => (hb.frozen (p := ⟨w.heap.size + 1, j, none⟩) (by first | (simp; done) | (simp; omega))).trans (by go_simp)
  have ft1 : ∀ j, w1.frozen? ⟨w.heap.size + 1 + 1, j, none⟩ = false := fun j => (hb.frozen (p := ⟨w.heap.size + 1 + 1, j, none⟩) (by first | (simp; done) | (simp; omega))).trans (by go_simp)
  simp only [World.size_alloc, World.size_setCell] at hs hb hz
  have HS : Hid (Seg w1 (w.heap.size + 1 + 1 + 1) 2 0 n (fun i => .int .i64 (p i)) ∧ Below w.heap.size w w1 ∧ w1.heap.size = w.heap.size + 1 + 1 + 1 + 1) := ⟨hs, hB, hz⟩
  have hw1 : w.heap.size + 1 + 1 + 1 < w1.heap.size := by omega
  have ho1 : w.heap.size + 1 + 1 < w1.heap.size := by omega
  have ho2 : w.heap.size + 1 < w1.heap.size := by omega
  have ho3 : w.heap.size < w1.heap.size := by omega
  clear hs hb hB hz H0
  go_wp2
  refine bodyPost_ret (v := .agg #[.slice (some ⟨w.heap.size + 1 + 1 + 1, 0, none⟩) n n, .int .i64 x.want]) (by simp [results, Try.results66, go_sem, r0, r1]) rfl ⟨_, rfl, by omega, by simp; omega, ?_, ?_⟩
  · obtain ⟨t1, t3⟩ := HS.out
    repeat (first | (with_reducible exact t1) | (refine Seg.setOther ?_ (by first | (simp; done) | (simp; omega)) _))
  · repeat (first | (with_reducible exact HS.out.2.1) | (refine Below.setCell ?_ (by simp <;> omega) _))
theorem infoLi : (Try.prog.info? 91).map (fun i => (i.zero, i.size, i.bytes)) = some (some (.agg #[.slice none 0 0, .int .i64 0]), 2, 32) := by kernel_rfl
theorem makeLi (n : Nat) (hn : n ≤ 1000000000) (w : World) : (Instr.makeSlice 45 (.int .i64 (n : Int)) (.int .i64 (n : Int))).run Try.prog w = .ok (.slice (some ⟨w.heap.size, 0, none⟩) n n) (w.alloc (.cells (madeCells #[.slice none 0 0, .int .i64 0] (n * 2)) 91)) := by
  obtain ⟨i, hi, hzz⟩ := Option.map_eq_some_iff.1 infoLi
  simp only [Prod.mk.injEq] at hzz
  obtain ⟨hz, hs, hb⟩ := hzz
  have hr := run_make (P := Try.prog) w 45 91 i _ Try.underlying45 hi hz .i64 .i64 n n (by omega) (Int.le_refl _) (by rw [hb]; omega) (by omega)
  rw [hs] at hr
  simpa [Value.cells] using hr
theorem segmadeLi (w : World) (n : Nat) : SegV (w.alloc (.cells (madeCells #[.slice none 0 0, .int .i64 0] (n * 2)) 91)) w.heap.size 91 n 2 (fun _ j => lcell zl (.slice none 0 0) j) := by
  refine ⟨madeCells #[.slice none 0 0, .int .i64 0] (n * 2), by show (w.heap.push _)[w.heap.size]? = _; simp, fun i hi j hj => ?_⟩
  rw [made_cell (idx_lt hj hi)]
  have e : (i * 2 + j) % 2 = j := by omega
  simp only [List.size_toArray, List.length_cons, List.length_nil, Nat.zero_add, Nat.reduceAdd, e]
  match j, hj with
  | 0, _ => rfl
  | 1, _ => rfl
set_option maxRecDepth 20000 in
set_option maxHeartbeats 3200000 in
theorem toLits_any {w : World} {ao : Option Addr} {n cap : Nat} {L : Nat → Li} (h : RdL w (.slice ao n cap) n L) (hf : LFew n L) :
    Calls Try.prog 30 #[.slice ao n cap] w fun e w' => ∃ g, e = .returned (.slice (some ⟨g, 0, none⟩) n n) ∧ OwLs w.heap.size w'.heap.size w' g n L ∧ Below w.heap.size w w' := by
  have H : ∀ W, Below w.heap.size w W → Hid (RdL W (.slice ao n cap) n L) := fun W hb => h.later hb
  have HF : Hid (LFew n L) := hf
  have hnI : (n : Int) ≤ 1048576 := by have := hf.cn; omega
  have hmk := makeLi n (by have := hf.cn; omega)
  clear h hf
  obtain ⟨Y, hY⟩ : ∃ Y, Y = w.alloc (.cells (madeCells #[.slice none 0 0, .int .i64 0] (n * 2)) 91) := ⟨_, rfl⟩
  have HY : Hid (SegV Y w.heap.size 91 n 2 (fun _ j => lcell zl (.slice none 0 0) j) ∧ Below w.heap.size w Y) := by rw [hY]; exact ⟨segmadeLi w n, (Below.refl _ _).alloc (Nat.le_refl _) _⟩
  go_enter Try.func30, Try.ntmps30
  go_wp2_with fail
  rw [← hY]
  clear hmk hY
  go_loopw [4] (fun i wr => ∃ (k : Nat) (PB : Nat → Nat), k ≤ n ∧ i = .int .i64 k ∧ Hid (SegV wr w.heap.size 91 n 2 (fun i j => if i < k then lcell (L i) (.slice (some ⟨PB i, 0, none⟩) (L i).np (L i).np) j else lcell zl (.slice none 0 0) j) ∧ (∀ i, i < k → w.heap.size ≤ PB i ∧ PB i < wr.heap.size ∧ Seg wr (PB i) 2 0 (L i).np (fun q => .int .i64 ((L i).p q))) ∧ (∀ i j, i < k → j < k → PB i = PB j → i = j) ∧ Below w.heap.size w wr)) (fun i _ => n - (intOf i).toNat)
  case atStart => exact ⟨0, fun _ => 0, Nat.zero_le _, rfl, HY.out.1.congr (fun i _ j _ => by simp), fun i hi => absurd hi (Nat.not_lt_zero _), fun i j hi => absurd hi (Nat.not_lt_zero _), HY.out.2⟩
  case round =>
    obtain ⟨k, PB, hk, rfl, HR⟩ := hrel
    by_cases hkn : k < n
    · obtain ⟨b, off, po, pc, rfl, hc, hp⟩ := (H wr HR.out.2.2.2).out.at hkn
      obtain ⟨x, hx⟩ : ∃ x, x = L k := ⟨_, rfl⟩
      obtain ⟨m, hm⟩ : ∃ m, m = (L k).np := ⟨_, rfl⟩
      have hmb : m ≤ 1048576 := by rw [hm]; exact HF.out.each hkn
      rw [← hm, ← hx] at hc hp
      have g0 : wr.cell? ⟨b, off + k * 2, none⟩ = some (.slice po m pc) := by first | exact hc 0 (by omega) | simpa [lcell] using hc 0 (by omega)
      have g1 : wr.cell? ⟨b, off + k * 2 + 1, none⟩ = some (.int .i64 x.want) := by first | exact hc 1 (by omega) | simpa [lcell] using hc 1 (by omega)
      have HP : Hid (RdRow wr (.slice po m pc) m x.p) := hp
      have HX : Hid (x = L k ∧ m = (L k).np) := ⟨hx, hm⟩
      clear hc hp hx hm
      go_wp2_with fail
      refine (toLit_any x HP.out hmb).mono ?_
      rintro e w1 ⟨gp, rfl, hg1, hg2, hsp, hb1⟩
      have HN : Hid (SegV w1 w.heap.size 91 n 2 (fun i j => if i < k then lcell (L i) (.slice (some ⟨PB i, 0, none⟩) (L i).np (L i).np) j else lcell zl (.slice none 0 0) j) ∧ Seg w1 gp 2 0 m (fun i => .int .i64 (x.p i)) ∧ Below wr.heap.size wr w1) := ⟨HR.out.1.below hb1, hsp, hb1⟩
      have e0 : w1.cell? ⟨w.heap.size, k * 2, none⟩ = some (.slice none 0 0) := by have := HN.out.1.cell hkn (show 0 < 2 by omega); simpa [lcell, zl] using this
      have e1 : w1.cell? ⟨w.heap.size, k * 2 + 1, none⟩ = some (.int .i64 0) := by have := HN.out.1.cell hkn (show 1 < 2 by omega); simpa [lcell, zl] using this
      have ef : ∀ j, w1.frozen? ⟨w.heap.size, j, none⟩ = false := fun j => HN.out.1.frozen j
      have HG : Hid (wr.heap.size ≤ gp ∧ gp < w1.heap.size) := ⟨hg1, hg2⟩
      have hwl := HN.out.1.lt
      clear hsp hb1 hg1 hg2 g0 g1 H
      go_wp2
      go_roundw
      case rel =>
        obtain ⟨r1, r2, r3, r4⟩ := HR.out
        obtain ⟨n1, n2, n3⟩ := HN.out
        obtain ⟨q1, q2⟩ := HG.out
        obtain ⟨ex, em⟩ := HX.out
        have hwr := r4.size
        have enp : x.np = m := by rw [ex, em]
        have hlt := r1.lt
        have hgp : gp ≠ w.heap.size := by omega
        refine ⟨k + 1, fun i => if i = k then gp else PB i, by omega, by simp, ?_, ?_, ?_, ?_⟩
        · refine SegV.congr (SegV.set (SegV.set (n1) hkn (show 0 < 2 by omega) (.slice (some ⟨gp, 0, none⟩) m m)) hkn (show 1 < 2 by omega) (.int .i64 x.want)) fun i hi j hj => ?_
          by_cases e : i = k
          · subst e
            rw [← ex, enp]
            match j, hj with
            | 0, _ => simp [lcell]
            | 1, _ => simp [lcell]
          · by_cases e2 : i < k
            · simp [e, e2, Nat.lt_succ_of_lt e2]
            · have : ¬ i < k + 1 := by omega
              simp [e, e2, this]
        · intro i hi
          by_cases e : i = k
          · subst e
            simp only [if_true]
            refine ⟨by omega, by simp; omega, ?_⟩
            rw [← ex, enp]
            repeat (first | (with_reducible exact n2) | (refine Seg.setOther ?_ (by exact hgp) _))
          · obtain ⟨s1, s2, s3⟩ := r2 i (by omega)
            simp only [if_neg e]
            refine ⟨s1, by simp; have := n3.size; omega, ?_⟩
            have s4 : Seg w1 (PB i) 2 0 (L i).np (fun q => .int .i64 ((L i).p q)) := s3.of_block (n3.block _ s2)
            have hne : PB i ≠ w.heap.size := fun e => by
              have := Seg.ne s3 (t' := 91) (b' := w.heap.size) (off' := 0) (n' := 0) (g := fun _ => .int .i64 0) (by obtain ⟨c, hc, _⟩ := r1; exact ⟨c, hc, fun i hi => absurd hi (Nat.not_lt_zero _)⟩) (by decide)
              exact this e
            repeat (first | (with_reducible exact s4) | (refine Seg.setOther ?_ (by first | exact hne | (simpa using hne)) _))
        · intro i j hi hj e
          by_cases ei : i = k
          · by_cases ej : j = k
            · omega
            · simp only [if_pos ei, if_neg ej] at e
              have := (r2 j (by omega)).2.1
              omega
          · by_cases ej : j = k
            · simp only [if_neg ei, if_pos ej] at e
              have := (r2 i (by omega)).2.1
              omega
            · simp only [if_neg ei, if_neg ej] at e
              exact r3 i j (by omega) (by omega) e
        · repeat (first | (with_reducible exact r4.trans (n3.mono hwr)) | (refine Below.setCell ?_ (by simp) _))
      case measure => simp [intOf]; omega
    · obtain rfl : k = n := by omega
      clear H
      go_wp2
      go_ret
      obtain ⟨r1, r2, r3, r4⟩ := HR.out
      exact ⟨w.heap.size, rfl, ⟨PB, fun i => (L i).np, Nat.le_refl _, r1.lt, r1.congr (fun i hi j _ => by simp [hi]), r2, r3⟩, r4⟩
set_option maxRecDepth 20000 in
set_option maxHeartbeats 1600000 in
theorem eqLit_any (x : Li) {po qo : Option Addr} {n pc qc : Nat} {p : Nat → Int} {w : World} (h : RdRow w (.slice po n pc) n p) (k : RdRow w (.slice qo n qc) n p) (hn : n ≤ 1048576) :
    Calls Try.prog 69 #[.agg #[.slice po n pc, .int .i64 x.want], .agg #[.slice qo n qc, .int .i64 x.want]] w fun e w' => e = .returned (.bool true) ∧ Below w.heap.size w w' := by
  have H : ∀ W, Below w.heap.size w W → Hid (RdRow W (.slice po n pc) n p ∧ RdRow W (.slice qo n qc) n p) := fun W hb => ⟨h.later hb, k.later hb⟩
  clear h k
  go_enter Try.func69, Try.ntmps69
  go_wp2_with fail
  refine (eqS_any (H _ (by go_grown)).out.1 (H _ (by go_grown)).out.2 (by omega)).mono ?_
  rintro e w1 ⟨rfl, q, rfl⟩
  clear H
  go_wp2
  go_ret
  exact ⟨rfl, below_drewN (by go_grown) q⟩
set_option maxRecDepth 20000 in
set_option maxHeartbeats 3200000 in
theorem eqLits_any {w : World} {ao ao' : Option Addr} {n cap cap' : Nat} {L : Nat → Li} (h : RdL w (.slice ao n cap) n L) (h' : RdL w (.slice ao' n cap') n L) (hf : LFew n L) :
    Calls Try.prog 32 #[.slice ao n cap, .slice ao' n cap'] w fun e w' => e = .returned (.bool true) ∧ Below w.heap.size w w' := by
  have H : Hid (RdL w (.slice ao n cap) n L ∧ RdL w (.slice ao' n cap') n L ∧ LFew n L) := ⟨h, h', hf⟩
  have hnI : (n : Int) ≤ 1048576 := by have := hf.cn; omega
  clear h h' hf
  have later : ∀ (wr : World) (p : Addr) {v : Value}, w.cell? p = some v → Below w.heap.size w wr → wr.cell? p = some v := fun wr p v h hb => (hb.cell (World.block_lt_of_cell? _ _ h)).trans h
  go_enter Try.func32, Try.ntmps32
  go_wp2_with fail
  go_loopw [5] (fun i wr => ∃ k : Nat, k ≤ n ∧ i = .int .i64 k ∧ Below w.heap.size w wr) (fun i _ => n - (intOf i).toNat)
  case atStart => exact ⟨0, Nat.zero_le _, rfl, Below.refl _ _⟩
  case round =>
    obtain ⟨k, hk, rfl, hb⟩ := hrel
    by_cases hkn : k < n
    · obtain ⟨b, off, po, pc, rfl, hc, hp⟩ := H.out.1.at hkn
      obtain ⟨b', off', qo, qc, rfl, hc', hp'⟩ := H.out.2.1.at hkn
      obtain ⟨x, hx⟩ : ∃ x, x = L k := ⟨_, rfl⟩
      obtain ⟨m, hm⟩ : ∃ m, m = (L k).np := ⟨_, rfl⟩
      have hmb : m ≤ 1048576 := by rw [hm]; exact H.out.2.2.each hkn
      rw [← hm, ← hx] at hc hc' hp hp'
      have HP : ∀ W, Below w.heap.size w W → Hid (RdRow W (.slice po m pc) m x.p ∧ RdRow W (.slice qo m qc) m x.p) := fun W h => ⟨hp.later h, hp'.later h⟩
      have p0 : ∀ W, Below w.heap.size w W → W.cell? ⟨b, off + k * 2, none⟩ = some (.slice po m pc) := fun W h => later W _ (hc 0 (by omega)) h
      have q0 : ∀ W, Below w.heap.size w W → W.cell? ⟨b', off' + k * 2, none⟩ = some (.slice qo m qc) := fun W h => later W _ (hc' 0 (by omega)) h
      have p1 : ∀ W, Below w.heap.size w W → W.cell? ⟨b, off + k * 2 + 1, none⟩ = some (.int .i64 x.want) := fun W h => later W _ (hc 1 (by omega)) h
      have q1 : ∀ W, Below w.heap.size w W → W.cell? ⟨b', off' + k * 2 + 1, none⟩ = some (.int .i64 x.want) := fun W h => later W _ (hc' 1 (by omega)) h
      clear hc hc' hp hp' hx hm later
      go_wp2_with fail
      go_region_held (fun W => Below w.heap.size w W) (first | assumption | exact Below.drew ‹_›)
        (first | (go_at_call 69; refine Calls.mono (eqLit_any x (HP _ (by first | assumption | exact Below.drew ‹_›)).out.1 (HP _ (by first | assumption | exact Below.drew ‹_›)).out.2 hmb) ?_; rintro e w1 ⟨rfl, hb1⟩; have hR1 := box_step ‹_› hb1 (Nat.le_refl _)))
      have HB : Hid (Below w.heap.size w w1) := hR1
      clear hR1 hb1 HP p0 q0 p1 q1
      go_wp2
      go_roundw
      case rel => exact ⟨k + 1, by omega, by simp, HB.out⟩
      case measure => simp [intOf]; omega
    · obtain rfl : k = n := by omega
      clear later
      go_wp2
      go_ret
      exact ⟨rfl, hb⟩
end Go.Proofs.Ytelejihgechmgaa
