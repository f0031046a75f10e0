/- The program's inverse of a matrix: contract. -/
import Derived.Test.YtboppklcmdfphaaWide
import Derived.Test.YtboppklcmdfphaaElimw
import Derived.Test.YtboppklcmdfphaaAux
namespace Go.Proofs.Ytboppklcmdfphaa
open Go.RowKit
set_option linter.unusedVariables false
/-- The residues with the unit matrix behind them, its first k rows laid. -/
def unitTo (A : Rm.Mx) (n k : Nat) : Rm.Mx := fun i j => if j < n then Rm.md (A i j) else if j = n + i ∧ i < k then 1 else 0
def invM0 (A : Rm.Mx) (n : Nat) : Rm.Mx := fun i j => if j < n then Rm.md (A i j) else if j = n + i then 1 else 0
theorem invM0_res (A : Rm.Mx) (n m k : Nat) : Rm.Res m k (invM0 A n) := by
  intro i j _ _
  unfold invM0
  split
  · exact ⟨Rm.md_lo _, Rm.md_hi _⟩
  · split <;> omega
def invOut (A : Rm.Mx) (n : Nat) : Rm.Mx := fun i j => (Rm.elim n (invM0 A n) n).getD (fun _ _ => 0) i (n + j)
def invCode (n : Nat) (L : Nat → Nat) (A : Rm.Mx) : Int := if faultOf n L ≠ 0 then faultOf n L else if (Rm.elim n (invM0 A n) n).isNone = true then 4 else 0
structure IvIn (w0 w : World) (m : Lie) (n wd : Nat) (F : Rm.Mx) : Prop where
  box : Box w w0.heap.size 25
  m : Mat (w0.heap.size + 1) w.heap.size w m n (fun _ => wd) F
  below : Below w0.heap.size w0 w
theorem IvIn.set {w0 w : World} {m : Lie} {n wd : Nat} {F : Rm.Mx} (h : IvIn w0 w m n wd F) {i j : Nat} (hi : i < n) (hj : j < wd) (x : Int) :
    IvIn w0 (w.setCell ⟨m.bs i, m.os i + j, none⟩ (.int .i64 x)) m n wd (fun r c => if r = i ∧ c = j then x else F r c) := by
  have hl := h.m.rlo i hi
  refine ⟨?_, ?_, h.below.setCell (by show w0.heap.size ≤ m.bs i; omega) _⟩
  · unfold Box
    rw [Below.heap_setCell _ _ _ _ (by show w0.heap.size ≠ m.bs i; omega)]
    exact h.box
  · have := h.m.set hi hj x
    rwa [← World.size_setCell (w := w) (a := ⟨m.bs i, m.os i + j, none⟩) (v := .int .i64 x)] at this
theorem IvIn.congr {w0 w : World} {m : Lie} {n wd : Nat} {F G : Rm.Mx} (h : IvIn w0 w m n wd F) (e : ∀ i j, i < n → j < wd → F i j = G i j) : IvIn w0 w m n wd G := ⟨h.box, h.m.congr e, h.below⟩
/-- Each row from its column n on. -/
def Lie.cut (m : Lie) (n : Nat) : Lie := { b := m.b, cap := m.cap, bs := m.bs, os := fun _ => n, cs := fun _ => n }
/-- The rows, k of them cut. -/
structure Cut (w0 w : World) (m : Lie) (n k : Nat) (F : Rm.Mx) : Prop where
  box : Box w w0.heap.size 25
  top : Seg w m.b 32 0 n (fun i => if i < k then (m.cut n).row (fun _ => n) i else .slice (some ⟨m.bs i, 0, none⟩) (n + n) (n + n))
  row : ∀ i, i < n → Seg w (m.bs i) 2 0 (n + n) (fun j => .int .i64 (F i j))
  blo : w0.heap.size + 1 ≤ m.b
  bhi : m.b < w.heap.size
  rlo : ∀ i, i < n → w0.heap.size + 1 ≤ m.bs i
  rhi : ∀ i, i < n → m.bs i < w.heap.size
  apart : ∀ i j, i < n → j < n → m.bs i = m.bs j → i = j
  below : Below w0.heap.size w0 w
theorem cut_start {w0 w w1 : World} {hi : Nat} {b cap n : Nat} {F : Rm.Mx} (hE : El (w0.heap.size + 1) hi w w1 b cap n (n + n) F) (hhi : hi ≤ w.heap.size) (hbox : Box w w0.heap.size 25) (hbel : Below w0.heap.size w0 w) :
    ∃ m : Lie, m.b = b ∧ m.cap = cap ∧ Cut w0 w1 m n 0 F := by
  obtain ⟨m, h1, h2, h3, h4, h5, h6⟩ := hE
  refine ⟨m, h1, h2, (h5.below.block _ (by omega)).trans hbox, h4.top.congr fun i hi => ?_, fun i hi => ?_, h4.blo, by have := h4.bhi; omega, h4.rlo, fun i hi => by have := h4.rhi i hi; omega, h4.apart, hbel.trans (h5.below.mono (by omega))⟩
  · simp only [Nat.not_lt_zero, if_false, Lie.row]
    rw [(h3 i hi).1, (h3 i hi).2]
  · have := h4.row i hi
    rw [(h3 i hi).1] at this
    exact this
theorem Cut.step {w0 w : World} {m : Lie} {n k : Nat} {F : Rm.Mx} (h : Cut w0 w m n k F) (hk : k < n) : Cut w0 (w.setCell ⟨m.b, k, none⟩ (.slice (some ⟨m.bs k, n, none⟩) n n)) m n (k + 1) F := by
  have hl := h.blo
  refine ⟨?_, ?_, fun i hi => (h.row i hi).setOther (Ne.symm (h.top.ne (h.row i hi) (by decide))) _, h.blo, by simpa using h.bhi, h.rlo, fun i hi => by simpa using h.rhi i hi, h.apart, h.below.setCell (by show w0.heap.size ≤ m.b; omega) _⟩
  · unfold Box
    rw [Below.heap_setCell _ _ _ _ (by show w0.heap.size ≠ m.b; omega)]
    exact h.box
  · have := h.top.set k hk (.slice (some ⟨m.bs k, n, none⟩) n n)
    rw [Nat.zero_add] at this
    refine this.congr fun j _ => ?_
    by_cases e : j = k
    · subst e; simp [Lie.cut, Lie.row]
    · by_cases e2 : j < k
      · simp [e, e2, Nat.lt_succ_of_lt e2]
      · simp [e, e2]; intro h; omega
theorem Cut.mat {w0 w : World} {m : Lie} {n : Nat} {F : Rm.Mx} (h : Cut w0 w m n n F) : Mat (w0.heap.size + 1) w.heap.size w (m.cut n) n (fun _ => n) (fun i j => F i (n + j)) :=
  ⟨h.top.congr fun i hi => by simp [hi], fun i hi => by have := (h.row i hi).sub n n (Nat.le_refl _); rw [Nat.zero_add] at this; exact this, h.blo, h.bhi, h.rlo, h.rhi, h.apart⟩
set_option maxHeartbeats 800000 in
theorem iInv_e1 {lo hi : Nat} {ma : Lie} {na : Nat} {La : Nat → Nat} {A : Rm.Mx} {w : World} (hA : Mat lo hi w ma na La A) (hna : na ≤ 1000000000000) (hLa : ∀ k, k < na → La k ≤ 1000000000000) (hc : faultOf na La ≠ 0) :
    Calls Try.prog 16 #[.slice (some ⟨ma.b, 0, none⟩) na ma.cap] w fun e w' => e = .returned (.agg #[.int .i64 (faultOf na La), .slice none 0 0]) ∧ Below w.heap.size w w' := by
  have TA : ∀ o, Hid (Tops (w.alloc o) ma.b 0 na La) := fun o => hA.tops.alloc o
  have LA : Hid (∀ k, k < na → La k ≤ 9223372036854775807) := fun k hk => Nat.le_trans (hLa k hk) (by omega)
  have hc1 : (faultOf na La != 0) = true := by rw [bne_iff_ne]; exact hc
  clear hA hLa hc
  go_enter Try.func16, Try.ntmps16
  go_wp2_with fail
  refine (iFault_any _ _ _ _ La _ (by omega) LA.out (TA _).out).mono ?_
  rintro e w1 ⟨rfl, rfl⟩
  go_wp2
  refine bodyPost_ret (v := .agg #[.int .i64 (faultOf na La), .slice none 0 0]) (by simp [results, Try.results16, go_sem]) rfl ⟨rfl, ?_⟩
  repeat (first | exact Below.refl _ _ | (refine Below.setCell ?_ (by simp) _) | (refine Below.alloc ?_ (by simp <;> omega) _))
set_option maxHeartbeats 1600000 in
theorem iInv_go {ma : Lie} {n : Nat} {La : Nat → Nat} {A : Rm.Mx} {w : World} (hA : Mat 0 w.heap.size w ma n La A) (hn : n ≤ 24) (h0 : 0 < n) (hLa : ∀ k, k < n → La k = n) (hc : faultOf n La = 0) :
    Calls Try.prog 16 #[.slice (some ⟨ma.b, 0, none⟩) n ma.cap] w fun e w' => ∃ v, e = .returned (.agg #[.int .i64 (invCode n La A), v]) ∧ OwnR w.heap.size w'.heap.size w' (invCode n La A) v n (invOut A n) ∧ Below w.heap.size w w' := by
  have TA : ∀ o, Hid (Tops (w.alloc o) ma.b 0 n La) := fun o => hA.tops.alloc o
  have LA : Hid (∀ k, k < n → La k = n) := hLa
  have MA : ∀ o, Hid (Mat 0 (w.alloc o).heap.size (w.alloc o) ma n La A) := fun o => mat_all (hA.alloc o (Nat.le_refl _)) (by simp)
  have HC : Hid (faultOf n La = 0) := hc
  clear hA hLa hc
  go_enter Try.func16, Try.ntmps16
  go_wp2_with fail
  refine (iFault_any _ _ _ _ La _ (by omega) (fun k hk => by rw [LA.out k hk]; omega) (TA _).out).mono ?_
  rintro e w1 ⟨rfl, rfl⟩
  rw [HC.out]
  go_wp2_with fail
  refine (wide_any (MA _).out hn hn LA.out).mono ?_
  rintro e w1 ⟨rfl, hm1, hb1⟩
  simp only [World.size_alloc] at hm1 hb1
  obtain ⟨m, hm⟩ : ∃ m : Lie, m = newLie (w.heap.size + 1) n (fun _ => n + n) := ⟨_, rfl⟩
  have E : Hid (m.b = w.heap.size + 1 ∧ m.cap = n ∧ ∀ i, i < n → m.os i = 0 ∧ m.cs i = n + n) := by rw [hm]; exact ⟨rfl, rfl, fun _ _ => ⟨rfl, rfl⟩⟩
  have HI : Hid (IvIn w w1 m n (n + n) (unitTo A n 0)) := by
    rw [← hm] at hm1
    refine ⟨(hb1.block _ (by omega)).trans (heap_alloc_new _ _), hm1.congr fun i j _ _ => by simp [unitTo], ((Below.refl _ _).alloc (Nat.le_refl _) _).trans (hb1.mono (by omega))⟩
  clear hm1 hb1 hm TA MA
  go_wp2_with fail
  go_loopw [20] (fun c wr => ∃ i : Nat, i ≤ n ∧ c = .int .i64 i ∧ IvIn w wr m n (n + n) (unitTo A n i)) (fun c _ => n - (intOf c).toNat)
  case atStart => exact ⟨0, Nat.zero_le _, rfl, HI.out⟩
  case round =>
    obtain ⟨i, hi, rfl, hr⟩ := hrel
    clear HI
    by_cases hin : i < n
    · obtain ⟨wd, hwd⟩ : ∃ wd, wd = n + n := ⟨_, rfl⟩
      obtain ⟨j, hj⟩ : ∃ j, j = n + i := ⟨_, rfl⟩
      have ej : (n : Int) + (i : Int) = (j : Int) := by omega
      rw [← hwd] at hr
      have hjw : j < wd := by omega
      have g1 : wr.cell? ⟨w.heap.size + 1, i, none⟩ = some (.slice (some ⟨m.bs i, m.os i, none⟩) wd (m.cs i)) := by rw [← E.out.1]; exact hr.m.cellRow hin
      have g3 : wr.cell? ⟨m.bs i, m.os i + j, none⟩ = some (.int .i64 (unitTo A n i i j)) := hr.m.cellAt hin hjw
      have g4 : wr.frozen? ⟨m.bs i, m.os i + j, none⟩ = false := (hr.m.row i hin).frozen _
      have HN : Hid (IvIn w (wr.setCell ⟨m.bs i, m.os i + j, none⟩ (.int .i64 1)) m n (n + n) (unitTo A n (i + 1))) := by
        rw [← hwd]
        refine (hr.set hin hjw 1).congr fun r c _ _ => ?_
        unfold unitTo
        by_cases e : r = i ∧ c = j
        · obtain ⟨rfl, rfl⟩ := e; rw [if_pos ⟨rfl, rfl⟩, if_neg (by omega), if_pos ⟨by omega, by omega⟩]
        · rw [if_neg e]
          by_cases e1 : c < n
          · rw [if_pos e1, if_pos e1]
          · rw [if_neg e1, if_neg e1]
            by_cases e2 : c = n + r ∧ r < i
            · rw [if_pos e2, if_pos (by omega)]
            · rw [if_neg e2, if_neg (by omega)]
      clear hr hj hwd
      go_wp2
      exact ⟨⟨i + 1, by omega, by simp, HN.out⟩, by simp [intOf]; omega⟩
    · obtain rfl : i = n := by omega
      have HX : Hid (IvIn w wr m i (i + i) (invM0 A i)) := hr.congr fun r c hr hc => by
        unfold unitTo invM0
        by_cases e1 : c < i
        · rw [if_pos e1, if_pos e1]
        · rw [if_neg e1, if_neg e1]
          by_cases e2 : c = i + r
          · rw [if_pos ⟨e2, hr⟩, if_pos e2]
          · rw [if_neg (by omega), if_neg e2]
      clear hr
      have HE : Hid (El (w.heap.size + 1) wr.heap.size wr wr (w.heap.size + 1) i i (i + i) (invM0 A i)) := ⟨m, E.out.1, E.out.2.1, E.out.2.2, HX.out.m, Within.refl _ _ _, rfl⟩
      obtain ⟨v, hv⟩ : ∃ v, v = wr := ⟨_, rfl⟩
      subst hv
      go_wp2_with fail
      refine (elim_any HE.out hn (by omega) (by omega) (invM0_res A i i (i + i))).mono ?_
      rintro e w2 ⟨r, rfl, hwi, hsz, hcase⟩
      have HW : Hid (Within (w.heap.size + 1) v.heap.size v w2 ∧ w2.heap.size = v.heap.size) := ⟨hwi, hsz⟩
      have HCS : Hid ((r = false ∧ Rm.elim i (invM0 A i) i = none) ∨ (r = true ∧ ∃ B, Rm.elim i (invM0 A i) i = some B ∧ El (w.heap.size + 1) v.heap.size v w2 (w.heap.size + 1) i i (i + i) B)) := hcase
      clear hwi hsz hcase
      have B2 : Hid (Box w2 w.heap.size 25) := (HW.out.1.below.block _ (by omega)).trans HX.out.box
      have BL2 : Hid (Below w.heap.size w w2) := HX.out.below.trans (HW.out.1.below.mono (by omega))
      cases r
      · have hc4 : Hid (invCode i La A = 4) := by
          rcases HCS.out with ⟨_, h⟩ | ⟨h, _⟩
          · show invCode i La A = 4
            simp [invCode, HC.out, h]
          · cases h
        have c0 := B2.out.c0
        have c1 := B2.out.c1
        have f0 := B2.out.fz 0
        have f1 := B2.out.fz 1
        go_wp2
        refine bodyPost_ret (v := .agg #[.int .i64 4, .slice none 0 0]) (by simp [results, Try.results16, go_sem, c0, c1]) rfl ⟨.slice none 0 0, by rw [hc4.out], Or.inl ⟨by rw [hc4.out]; omega, rfl⟩, ?_⟩
        exact (BL2.out.setCell (Nat.le_refl _) _).setCell (Nat.le_refl _) _
      · obtain ⟨B, hB, hEl⟩ : ∃ B, Rm.elim i (invM0 A i) i = some B ∧ El (w.heap.size + 1) v.heap.size v w2 (w.heap.size + 1) i i (i + i) B := by
          rcases HCS.out with ⟨h, _⟩ | ⟨_, h⟩
          · cases h
          · exact h
        have hc0 : Hid (invCode i La A = 0 ∧ ∀ r c, invOut A i r c = B r (i + c)) := ⟨by simp [invCode, HC.out, hB], fun r c => by simp [invOut, hB]⟩
        obtain ⟨m', e1, e2, hcut⟩ := cut_start hEl (Nat.le_refl _) HX.out.box HX.out.below
        have HK : Hid (Cut w w2 m' i 0 B) := hcut
        have E' : Hid (m'.b = w.heap.size + 1 ∧ m'.cap = i) := ⟨e1, e2⟩
        clear hB hEl e1 e2 hcut HCS B2 BL2 HW HE HX
        go_wp2_with fail
        go_loopw [37] (fun c wr => ∃ k : Nat, k ≤ i ∧ c = .int .i64 k ∧ Cut w wr m' i k B) (fun c _ => i - (intOf c).toNat)
        case atStart => exact ⟨0, Nat.zero_le _, rfl, HK.out⟩
        case round =>
          obtain ⟨k, hk, rfl, hr⟩ := hrel
          clear HK
          by_cases hki : k < i
          · have g1 : wr.cell? ⟨w.heap.size + 1, k, none⟩ = some (.slice (some ⟨m'.bs k, 0, none⟩) (i + i) (i + i)) := by rw [← E'.out.1]; simpa using hr.top.cell hki
            have g2 : wr.frozen? ⟨w.heap.size + 1, k, none⟩ = false := by rw [← E'.out.1]; exact hr.top.frozen _
            have HN : Hid (Cut w (wr.setCell ⟨w.heap.size + 1, k, none⟩ (.slice (some ⟨m'.bs k, i, none⟩) i i)) m' i (k + 1) B) := by rw [← E'.out.1]; exact hr.step hki
            clear hr
            go_wp2
            exact ⟨⟨k + 1, by omega, by simp, HN.out⟩, by simp [intOf]; omega⟩
          · obtain rfl : k = i := by omega
            have HF : Hid (Cut w wr m' k k B) := hr
            clear hr
            have c0 := HF.out.box.c0
            have c1 := HF.out.box.c1
            have f0 := HF.out.box.fz 0
            have f1 := HF.out.box.fz 1
            go_wp2
            refine bodyPost_ret (v := .agg #[.int .i64 0, .slice (some ⟨w.heap.size + 1, 0, none⟩) k k]) (by simp [results, Try.results16, go_sem, c0, c1]) rfl ⟨.slice (some ⟨w.heap.size + 1, 0, none⟩) k k, by rw [hc0.out.1], Or.inr ⟨hc0.out.1, m'.cut k, ?_, ?_⟩, ?_⟩
            · show Value.slice _ _ _ = .slice (some ⟨m'.b, 0, none⟩) k m'.cap
              rw [E'.out.1, E'.out.2]
            · exact mat_boxed (HF.out.mat.congr fun r c _ _ => (hc0.out.2 r c).symm) _ _
            · exact (HF.out.below.setCell (Nat.le_refl _) _).setCell (Nat.le_refl _) _
end Go.Proofs.Ytboppklcmdfphaa
