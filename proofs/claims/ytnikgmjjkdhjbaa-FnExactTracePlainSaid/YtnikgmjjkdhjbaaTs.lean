/- Rays near the axis: the specification. -/
import Derived.Test.YtnikgmjjkdhjbaaTb
import Derived.Handy
import Derived.Deep.RegionHeld3
import Derived.Deep.DeepCutAuto
import Derived.Deep.RegionLaw
namespace Go.Proofs.Ytnikgmjjkdhjbaa
open Go.RowKit
set_option linter.unusedVariables false
set_option linter.unusedSimpArgs false
/-- All that was there is as it was. -/
def Fro (a b : World) : Prop := Below a.heap.size a b
theorem Fro.later {a b c : World} (h : Fro a b) (k : Below b.heap.size b c) : Fro a c := Below.trans h (k.mono (Below.size h))
/-- The list of rays that a call has built. -/
def OwR (w : World) (base : Nat) (v : Value) (n : Nat) (F : Nat → Ry) : Prop := w.ownsRow base 70 4 v n (flat (fun i => rrow (F i)) n)
theorem OwR.later {w w' : World} {base n : Nat} {v : Value} {F : Nat → Ry} (h : OwR w base v n F) (b : Below w.heap.size w w') : OwR w' base v n F := owns_later h b
theorem OwR.drew {w : World} {base n : Nat} {v : Value} {F : Nat → Ry} (h : OwR w base v n F) : OwR w.drew base v n F := h
theorem OwR.set {w : World} {base n c j : Nat} {v x : Value} {F : Nat → Ry} (h : OwR w base v n F) (hc : c < base) : OwR (w.setCell ⟨c, j, none⟩ x) base v n F := by
  obtain ⟨h0, h | ⟨g, cap, cur, hv, hg, hh, r⟩⟩ := h
  · exact ⟨h0, Or.inl h⟩
  · exact ⟨h0, Or.inr ⟨g, cap, cur, hv, hg, (Below.heap_setCell _ _ _ _ (by simp; omega)).trans hh, r⟩⟩
theorem OwR.grew {w w' : World} {base n : Nat} {v : Value} {F : Nat → Ry} (h : OwR w base v n F) (r : Nat) (b : But r w.heap.size w w') (hr : r < base) : OwR w' base v n F := by
  obtain ⟨h0, h | ⟨g, cap, cur, hv, hg, hh, q⟩⟩ := h
  · exact ⟨h0, Or.inl h⟩
  · exact ⟨h0, Or.inr ⟨g, cap, cur, hv, hg, (b.block g (Array.getElem?_eq_some_iff.1 hh).1 (by omega)).trans hh, q⟩⟩
theorem OwR.seg {w : World} {base n : Nat} {v : Value} {F : Nat → Ry} (h : OwR w base v n F) : OwV 70 4 base w.heap.size w v n (fun i j => rc (F i) j) := by
  obtain ⟨hl, h | ⟨g, cap, cur, hv, hg, hh, h1, h2, h3, h4⟩⟩ := h
  · refine Or.inl ⟨h.1, ?_⟩
    have := flat_len (F := fun i => rrow (F i)) (m := 4) (fun i => rfl) n
    rw [h.2] at this
    simp at this
    omega
  · refine Or.inr ⟨g, cap, hv, hg, (Array.getElem?_eq_some_iff.1 hh).1, cur, hh, fun i hi j hj => ?_⟩
    have h5 := flat_at (F := fun i => rrow (F i)) (m := 4) (fun i => rfl) (n := n) hi hj
    rw [← h4, List.getElem?_take_of_lt (by omega), Array.getElem?_toList] at h5
    rw [h5]
    match j, hj with
    | 0, _ => rfl
    | 1, _ => rfl
    | 2, _ => rfl
    | 3, _ => rfl
theorem OwR.one {W : World} {base : Nat} {v : Ry} {F : Nat → Ry} (hb : base ≤ W.heap.size) (hF : F 0 = v) : OwR (W.alloc (.cells #[.int .i64 v.Y.n, .int .i64 v.Y.d, .int .i64 v.U.n, .int .i64 v.U.d] 70)) base (.slice (some ⟨W.heap.size, 0, none⟩) 1 1) 1 F := by
  refine ⟨by simp [flat, rrow], Or.inr ⟨W.heap.size, 1, #[.int .i64 v.Y.n, .int .i64 v.Y.d, .int .i64 v.U.n, .int .i64 v.U.d], rfl, hb, heap_alloc_new _ _, by simp, by decide, by simp, ?_⟩⟩
  subst hF
  simp [flat, rrow]
def tcO : Bool → Int
  | true => 0
  | false => 3
def tnO (k : Bool) (n : Nat) : Nat := match k with
  | true => n + 1
  | false => 0
theorem infoRy : (Try.prog.info? 70).map (fun i => (i.zero, i.size, i.bytes)) = some (some (.agg #[.int .i64 0, .int .i64 0, .int .i64 0, .int .i64 0]), 4, 32) := by kernel_rfl
theorem RdP.at {w wr : World} {b off n : Nat} {G : Nat → Pt} (h : RdP w b off n G) (hb : Below w.heap.size w wr) {k : Nat} (hk : k < n) : wr.cell? ⟨b, off + k * 3, none⟩ = some (.int .i64 (G k).k) ∧ wr.cell? ⟨b, off + k * 3 + 1, none⟩ = some (.int .i64 (G k).x.n) ∧ wr.cell? ⟨b, off + k * 3 + 2, none⟩ = some (.int .i64 (G k).x.d) := (h.later hb (Nat.le_refl _)) k hk
set_option maxRecDepth 20000 in
set_option maxHeartbeats 3200000 in
theorem strace_0 (b off n cap : Nat) (G : Nat → Pt) (r : Ry) (w : World) (hn : n ≤ 1000000000) (hc : RdP w b off n G) (h : ¬ lC G n = 0) : PX 35 #[.slice (some ⟨b, off, none⟩) n cap, .agg #[.int .i64 r.Y.n, .int .i64 r.Y.d, .int .i64 r.U.n, .int .i64 r.U.d]] w (lC G n) 0 (fun _ => r) := by
  unfold PX
  have A : Hid (∀ W, Below w.heap.size w W → Calls Try.prog 68 #[.slice (some ⟨b, off, none⟩) n cap] W fun e w' => e = .returned (.int .i64 (lC G n)) ∧ Below W.heap.size W w') := fun W hb => sparts b off n cap G W hn (hc.later hb (Nat.le_refl _))
  clear hc
  generalize lC G n = c at *
  have hcc : (c != 0) = true := by rw [bne_iff_ne]; exact h
  clear h
  obtain ⟨w2, hw2⟩ : ∃ W, W = (w.alloc (.cells #[.int .i64 r.Y.n, .int .i64 r.Y.d, .int .i64 r.U.n, .int .i64 r.U.d] 70)).alloc (.cells #[.int .i64 0, .slice none 0 0] 67) := ⟨_, rfl⟩
  have B2 : Hid (Below w.heap.size w w2) := by show Below _ _ _; rw [hw2]; exact ((Below.refl _ _).alloc (Nat.le_refl _) _).alloc (by simp) _
  have R2 : Hid (Blk w2 (w.heap.size + 1) #[.int .i64 0, .slice none 0 0] 67) := by show Blk _ _ _ _; rw [hw2]; exact Blk.new (by simp)
  go_enter Try.func35, Try.ntmps35
  go_wp2_with fail
  rw [← hw2]
  refine (A.out _ B2.out).mono ?_
  rintro e w3 ⟨rfl, b3⟩
  have c0 := (R2.out.old b3).cell (j := 0) (v := .int .i64 0) rfl
  have c1 := (R2.out.old b3).cell (j := 1) (v := .slice none 0 0) rfl
  have f0 := (R2.out.old b3).frozen 0
  have f1 := (R2.out.old b3).frozen 1
  have B3 : Hid (Below w.heap.size w w3) := B2.out.trans (b3.mono B2.out.size)
  clear b3 hw2 A R2 B2
  go_wp2
  refine bodyPost_ret (v := Pl c (.slice none 0 0)) (by simp [results, Try.results35, go_sem, c0, c1]) rfl ⟨_, rfl, Or.inl ⟨rfl, rfl⟩, (B3.out.setCell (by simp) _).setCell (by simp) _⟩
set_option maxRecDepth 20000 in
set_option maxHeartbeats 3200000 in
theorem strace_1 (b off n cap : Nat) (G : Nat → Pt) (r : Ry) (w : World) (hn : n ≤ 1000000000) (hc : RdP w b off n G) (h : lC G n = 0) (hr : r.ok = false) : PX 35 #[.slice (some ⟨b, off, none⟩) n cap, .agg #[.int .i64 r.Y.n, .int .i64 r.Y.d, .int .i64 r.U.n, .int .i64 r.U.d]] w 1 0 (fun _ => r) := by
  unfold PX
  have A : Hid (∀ W, Below w.heap.size w W → Calls Try.prog 68 #[.slice (some ⟨b, off, none⟩) n cap] W fun e w' => e = .returned (.int .i64 0) ∧ Below W.heap.size W w') := fun W hb => by have := sparts b off n cap G W hn (hc.later hb (Nat.le_refl _)); rw [h] at this; exact this
  have RA : Hid (∀ W, Calls Try.prog 81 #[.agg #[.int .i64 r.Y.n, .int .i64 r.Y.d, .int .i64 r.U.n, .int .i64 r.U.d]] W fun e w' => e = .returned (.bool false) ∧ Below W.heap.size W w') := fun W => by have := sray r W; rw [hr] at this; exact this
  clear hc h hr
  obtain ⟨w2, hw2⟩ : ∃ W, W = (w.alloc (.cells #[.int .i64 r.Y.n, .int .i64 r.Y.d, .int .i64 r.U.n, .int .i64 r.U.d] 70)).alloc (.cells #[.int .i64 0, .slice none 0 0] 67) := ⟨_, rfl⟩
  have B2 : Hid (Below w.heap.size w w2) := by show Below _ _ _; rw [hw2]; exact ((Below.refl _ _).alloc (Nat.le_refl _) _).alloc (by simp) _
  have Y2 : Hid (Blk w2 w.heap.size #[.int .i64 r.Y.n, .int .i64 r.Y.d, .int .i64 r.U.n, .int .i64 r.U.d] 70) := by show Blk _ _ _ _; rw [hw2]; exact (Blk.new rfl).alloc _
  have R2 : Hid (Blk w2 (w.heap.size + 1) #[.int .i64 0, .slice none 0 0] 67) := by show Blk _ _ _ _; rw [hw2]; exact Blk.new (by simp)
  go_enter Try.func35, Try.ntmps35
  go_wp2_with fail
  rw [← hw2]
  refine (A.out _ B2.out).mono ?_
  rintro e w3 ⟨rfl, b3⟩
  have Y3 : Hid (Blk w3 w.heap.size #[.int .i64 r.Y.n, .int .i64 r.Y.d, .int .i64 r.U.n, .int .i64 r.U.d] 70) := Y2.out.old b3
  have R3 : Hid (Blk w3 (w.heap.size + 1) #[.int .i64 0, .slice none 0 0] 67) := R2.out.old b3
  have B3 : Hid (Below w.heap.size w w3) := B2.out.trans (b3.mono B2.out.size)
  clear b3 hw2 A R2 B2 Y2
  have y0 := Y3.out.cell (j := 0) (v := .int .i64 r.Y.n) rfl
  have y1 := Y3.out.cell (j := 1) (v := .int .i64 r.Y.d) rfl
  have y2 := Y3.out.cell (j := 2) (v := .int .i64 r.U.n) rfl
  have y3 := Y3.out.cell (j := 3) (v := .int .i64 r.U.d) rfl
  go_wp2_with fail
  refine (RA.out _).mono ?_
  rintro e w4 ⟨rfl, b4⟩
  have c0 := (R3.out.old b4).cell (j := 0) (v := .int .i64 0) rfl
  have c1 := (R3.out.old b4).cell (j := 1) (v := .slice none 0 0) rfl
  have f0 := (R3.out.old b4).frozen 0
  have f1 := (R3.out.old b4).frozen 1
  have B4 : Hid (Below w.heap.size w w4) := B3.out.trans (b4.mono B3.out.size)
  clear b4 R3 B3 Y3 y0 y1 y2 y3 RA
  go_wp2
  refine bodyPost_ret (v := Pl 1 (.slice none 0 0)) (by simp [results, Try.results35, go_sem, c0, c1]) rfl ⟨_, rfl, Or.inl ⟨rfl, rfl⟩, (B4.out.setCell (by simp) _).setCell (by simp) _⟩
set_option maxRecDepth 20000 in
set_option maxHeartbeats 12800000 in
theorem strace_2 (b off n cap : Nat) (G : Nat → Pt) (r : Ry) (w : World) (hn : n ≤ 1000000000) (hc : RdP w b off n G) (h : lC G n = 0) (hr : r.ok = true) : PX 35 #[.slice (some ⟨b, off, none⟩) n cap, .agg #[.int .i64 r.Y.n, .int .i64 r.Y.d, .int .i64 r.U.n, .int .i64 r.U.d]] w (tcO (trB G r n)) (tnO (trB G r n) n) (tr G r) := by
  unfold PX
  have A : Hid (∀ W, Below w.heap.size w W → Calls Try.prog 68 #[.slice (some ⟨b, off, none⟩) n cap] W fun e w' => e = .returned (.int .i64 0) ∧ Below W.heap.size W w') := fun W hb => by have := sparts b off n cap G W hn (hc.later hb (Nat.le_refl _)); rw [h] at this; exact this
  have RA : Hid (∀ W, Calls Try.prog 81 #[.agg #[.int .i64 r.Y.n, .int .i64 r.Y.d, .int .i64 r.U.n, .int .i64 r.U.d]] W fun e w' => e = .returned (.bool true) ∧ Below W.heap.size W w') := fun W => by have := sray r W; rw [hr] at this; exact this
  have HC : Hid (RdP w b off n G) := hc
  have HOK : Hid (r.ok = true) := hr
  clear hc h hr
  obtain ⟨w2, hw2⟩ : ∃ W, W = (w.alloc (.cells #[.int .i64 r.Y.n, .int .i64 r.Y.d, .int .i64 r.U.n, .int .i64 r.U.d] 70)).alloc (.cells #[.int .i64 0, .slice none 0 0] 67) := ⟨_, rfl⟩
  have B2 : Hid (Below w.heap.size w w2) := by show Below _ _ _; rw [hw2]; exact ((Below.refl _ _).alloc (Nat.le_refl _) _).alloc (by simp) _
  have Y2 : Hid (Blk w2 w.heap.size #[.int .i64 r.Y.n, .int .i64 r.Y.d, .int .i64 r.U.n, .int .i64 r.U.d] 70) := by show Blk _ _ _ _; rw [hw2]; exact (Blk.new rfl).alloc _
  have R2 : Hid (Blk w2 (w.heap.size + 1) #[.int .i64 0, .slice none 0 0] 67) := by show Blk _ _ _ _; rw [hw2]; exact Blk.new (by simp)
  go_enter Try.func35, Try.ntmps35
  go_wp2_with fail
  rw [← hw2]
  refine (A.out _ B2.out).mono ?_
  rintro e w3 ⟨rfl, b3⟩
  have Y3 : Hid (Blk w3 w.heap.size #[.int .i64 r.Y.n, .int .i64 r.Y.d, .int .i64 r.U.n, .int .i64 r.U.d] 70) := Y2.out.old b3
  have R3 : Hid (Blk w3 (w.heap.size + 1) #[.int .i64 0, .slice none 0 0] 67) := R2.out.old b3
  have B3 : Hid (Below w.heap.size w w3) := B2.out.trans (b3.mono B2.out.size)
  clear b3 hw2 A R2 B2 Y2
  have y0 := Y3.out.cell (j := 0) (v := .int .i64 r.Y.n) rfl
  have y1 := Y3.out.cell (j := 1) (v := .int .i64 r.Y.d) rfl
  have y2 := Y3.out.cell (j := 2) (v := .int .i64 r.U.n) rfl
  have y3 := Y3.out.cell (j := 3) (v := .int .i64 r.U.d) rfl
  go_wp2_with fail
  refine (RA.out _).mono ?_
  rintro e w4 ⟨rfl, b4⟩
  have Y4 : Hid (Blk w4 w.heap.size #[.int .i64 r.Y.n, .int .i64 r.Y.d, .int .i64 r.U.n, .int .i64 r.U.d] 70) := Y3.out.old b4
  have R4 : Hid (Blk w4 (w.heap.size + 1) #[.int .i64 0, .slice none 0 0] 67) := R3.out.old b4
  have B4 : Hid (Below w.heap.size w w4) := B3.out.trans (b4.mono B3.out.size)
  clear b4 R3 B3 Y3 y0 y1 y2 y3 RA
  have y0 := Y4.out.cell (j := 0) (v := .int .i64 r.Y.n) rfl
  have y1 := Y4.out.cell (j := 1) (v := .int .i64 r.Y.d) rfl
  have y2 := Y4.out.cell (j := 2) (v := .int .i64 r.U.n) rfl
  have y3 := Y4.out.cell (j := 3) (v := .int .i64 r.U.d) rfl
  go_wp2_with fail
  go_loopw [6, 7] (fun v i wr => ∃ k : Nat, k ≤ n ∧ i = .int .i64 k ∧ trB G r k = true ∧ Hid (Blk wr w.heap.size #[.int .i64 (tr G r k).Y.n, .int .i64 (tr G r k).Y.d, .int .i64 (tr G r k).U.n, .int .i64 (tr G r k).U.d] 70) ∧ Hid (Blk wr (w.heap.size + 1) #[.int .i64 0, .slice none 0 0] 67) ∧ Hid (OwR wr (w.heap.size + 2) v (k + 1) (tr G r)) ∧ Hid (Below w.heap.size w wr)) (fun _ i _ => n - (intOf i).toNat)
  case atStart =>
    refine ⟨0, Nat.zero_le _, rfl, rfl, Blk.alloc Y4.out _, Blk.alloc R4.out _, ?_, B4.out.alloc B4.out.size _⟩
    exact OwR.one (v := r) (by have := R4.out.lt; omega) rfl
  case round =>
    obtain ⟨k, hk, rfl, htr, HY, HR, HW, HO⟩ := hrel
    obtain ⟨v, hv⟩ : ∃ v, v = u6 := ⟨_, rfl⟩
    rw [← hv] at HW ⊢
    clear hv
    by_cases hkn : k < n
    · obtain ⟨s, hs⟩ : ∃ s, s = tr G r k := ⟨_, rfl⟩
      obtain ⟨p, hp⟩ : ∃ p, p = G k := ⟨_, rfl⟩
      have HP : Hid (∀ W, Below w.heap.size w W → W.cell? ⟨b, off + k * 3, none⟩ = some (.int .i64 p.k) ∧ W.cell? ⟨b, off + k * 3 + 1, none⟩ = some (.int .i64 p.x.n) ∧ W.cell? ⟨b, off + k * 3 + 2, none⟩ = some (.int .i64 p.x.d)) := fun W hb => by rw [hp]; exact RdP.at HC.out hb hkn
      have hsok : s.Y.ok = true ∧ s.U.ok = true := by have := tr_ok HOK.out k htr; rw [← hs, ry_ok, Bool.and_eq_true] at this; exact this
      have HN : Hid (tr G r (k + 1) = trG p s ∧ trB G r (k + 1) = trK p s) := by rw [hs, hp]; exact ⟨rfl, by show (trB G r k && _) = _; rw [htr]; rfl⟩
      rw [← hs] at HY
      have SY : Hid (∀ W, Calls Try.prog 58 #[.agg #[.int .i64 s.Y.n, .int .i64 s.Y.d]] W fun e w' => e = .returned (.agg #[.bool true, .int .i64 s.Y.n, .int .i64 s.Y.d]) ∧ Below W.heap.size W w') := fun W => by have := sof s.Y W; rw [hsok.1] at this; exact this
      have SU : Hid (∀ W, Calls Try.prog 58 #[.agg #[.int .i64 s.U.n, .int .i64 s.U.d]] W fun e w' => e = .returned (.agg #[.bool true, .int .i64 s.U.n, .int .i64 s.U.d]) ∧ Below W.heap.size W w') := fun W => by have := sof s.U W; rw [hsok.2] at this; exact this
      have HO0 : Hid (Below w.heap.size w wr) := HO
      have HQ : Hid (Fro wr wr) := Below.refl _ _
      clear hs hp hsok HC
      have cy0 := (Blk.old HY.out HQ.out).cell (j := 0) (v := .int .i64 s.Y.n) rfl
      have cy1 := (Blk.old HY.out HQ.out).cell (j := 1) (v := .int .i64 s.Y.d) rfl
      have cy2 := (Blk.old HY.out HQ.out).cell (j := 2) (v := .int .i64 s.U.n) rfl
      have cy3 := (Blk.old HY.out HQ.out).cell (j := 3) (v := .int .i64 s.U.d) rfl
      go_wp2_with fail
      refine (SY.out _).mono ?_
      rintro e x1 ⟨rfl, b⟩
      replace HQ : Hid (Fro wr x1) := HQ.out.later b
      have Z1 : Hid (wr.heap.size ≤ x1.heap.size) := b.size
      replace HO : Hid (Below w.heap.size w x1) := HO.out.trans (b.mono HO.out.size)
      clear b
      go_upto_region 11 with fail
      obtain ⟨x2, hwd⟩ : ∃ W, W = x1.alloc (.cells #[.bool true, .int .i64 s.Y.n, .int .i64 s.Y.d] 93) := ⟨_, rfl⟩
      have BY : Hid (Blk x2 x1.heap.size #[.bool true, .int .i64 s.Y.n, .int .i64 s.Y.d] 93) := by show Blk _ _ _ _; rw [hwd]; exact Blk.new rfl
      have b : Below x1.heap.size x1 x2 := by rw [hwd]; exact (Below.refl _ _).alloc (Nat.le_refl _) _
      have Y2 : Hid (x1.heap.size + 1 ≤ x2.heap.size) := by show _ ≤ _; rw [hwd]; simp
      rw [← hwd]
      clear hwd
      replace HQ : Hid (Fro wr x2) := HQ.out.later b
      have Z2 : Hid (x1.heap.size ≤ x2.heap.size) := b.size
      replace HO : Hid (Below w.heap.size w x2) := HO.out.trans (b.mono HO.out.size)
      clear b
      clear cy0 cy1 cy2 cy3
      have cy0 := (Blk.old HY.out HQ.out).cell (j := 0) (v := .int .i64 s.Y.n) rfl
      have cy1 := (Blk.old HY.out HQ.out).cell (j := 1) (v := .int .i64 s.Y.d) rfl
      have cy2 := (Blk.old HY.out HQ.out).cell (j := 2) (v := .int .i64 s.U.n) rfl
      have cy3 := (Blk.old HY.out HQ.out).cell (j := 3) (v := .int .i64 s.U.d) rfl
      go_wp2_with fail
      refine (SU.out _).mono ?_
      rintro e x3 ⟨rfl, b⟩
      replace HQ : Hid (Fro wr x3) := HQ.out.later b
      replace BY : Hid (Blk x3 x1.heap.size #[.bool true, .int .i64 s.Y.n, .int .i64 s.Y.d] 93) := BY.out.later b
      have Z3 : Hid (x2.heap.size ≤ x3.heap.size) := b.size
      replace HO : Hid (Below w.heap.size w x3) := HO.out.trans (b.mono HO.out.size)
      clear b
      go_upto_region 12 with fail
      obtain ⟨x4, hwd⟩ : ∃ W, W = x3.alloc (.cells #[.bool true, .int .i64 s.U.n, .int .i64 s.U.d] 93) := ⟨_, rfl⟩
      have BU : Hid (Blk x4 x3.heap.size #[.bool true, .int .i64 s.U.n, .int .i64 s.U.d] 93) := by show Blk _ _ _ _; rw [hwd]; exact Blk.new rfl
      have b : Below x3.heap.size x3 x4 := by rw [hwd]; exact (Below.refl _ _).alloc (Nat.le_refl _) _
      have Y4 : Hid (x3.heap.size + 1 ≤ x4.heap.size) := by show _ ≤ _; rw [hwd]; simp
      rw [← hwd]
      clear hwd
      replace HQ : Hid (Fro wr x4) := HQ.out.later b
      replace BY : Hid (Blk x4 x1.heap.size #[.bool true, .int .i64 s.Y.n, .int .i64 s.Y.d] 93) := BY.out.later b
      have Z4 : Hid (x3.heap.size ≤ x4.heap.size) := b.size
      replace HO : Hid (Below w.heap.size w x4) := HO.out.trans (b.mono HO.out.size)
      clear b
      clear cy0 cy1 cy2 cy3

      by_cases hk1 : (p.k == 1) = true
      · skip
        have hbx : x1.heap.size < x4.heap.size := BY.out.lt
        have e0 := BY.out.cell (j := 0) (v := .bool true) rfl
        have e1 := BY.out.cell (j := 1) (v := .int .i64 s.Y.n) rfl
        have e2 := BY.out.cell (j := 2) (v := .int .i64 s.Y.d) rfl
        have cy0 := (Blk.old HY.out HQ.out).cell (j := 0) (v := .int .i64 s.Y.n) rfl
        have cy1 := (Blk.old HY.out HQ.out).cell (j := 1) (v := .int .i64 s.Y.d) rfl
        have cy2 := (Blk.old HY.out HQ.out).cell (j := 2) (v := .int .i64 s.U.n) rfl
        have cy3 := (Blk.old HY.out HQ.out).cell (j := 3) (v := .int .i64 s.U.d) rfl
        obtain ⟨p0, p1, p2⟩ := HP.out x4 HO.out
        go_wp2_with fail
        obtain ⟨T, hT⟩ : ∃ T, T = aQ true s.Y (mulK p.x s.U) (mulQ p.x s.U) := ⟨_, rfl⟩
        obtain ⟨K, hK⟩ : ∃ K, K = aK true s.Y (mulK p.x s.U) (mulQ p.x s.U) := ⟨_, rfl⟩
        go_cut [8] from 40 to 49 (fun p wx => p = .pointer (some ⟨x1.heap.size, 0, none⟩) ∧ Hid (Below wr.heap.size wr wx) ∧ Hid (Blk wx x1.heap.size #[.bool K, .int .i64 T.n, .int .i64 T.d] 93) ∧ Hid (Blk wx x3.heap.size #[.bool true, .int .i64 s.U.n, .int .i64 s.U.d] 93))
        case first =>
          go_region_law (first | (go_simp; go_at_call 57; refine (smul7 p.x s.U _).mono ?_; rintro e a1 ⟨rfl, hb1⟩; have k1 : Below x4.heap.size x4 a1 := ((Below.refl _ _).drew).trans hb1; have u0 : a1.cell? ⟨x1.heap.size, 0, none⟩ = some (.bool true) := (BY.out.old k1).cell (j := 0) rfl; have u1 : a1.cell? ⟨x1.heap.size, 1, none⟩ = some (.int .i64 s.Y.n) := (BY.out.old k1).cell (j := 1) rfl; have u2 : a1.cell? ⟨x1.heap.size, 2, none⟩ = some (.int .i64 s.Y.d) := (BY.out.old k1).cell (j := 2) rfl) | (go_simp; go_at_call 56; refine (sadd7 true s.Y (mulK p.x s.U) (mulQ p.x s.U) _).mono ?_; rintro e a2 ⟨rfl, hb2⟩; have k2 : Below x4.heap.size x4 a2 := k1.trans (hb2.mono k1.size); have t0 : a2.cell? ⟨x1.heap.size, 0, none⟩ = some (.bool true) := (BY.out.old k2).cell (j := 0) rfl; have tf0 := (BY.out.old k2).frozen 0; have t1 : a2.cell? ⟨x1.heap.size, 1, none⟩ = some (.int .i64 s.Y.n) := (BY.out.old k2).cell (j := 1) rfl; have tf1 := (BY.out.old k2).frozen 1; have t2 : a2.cell? ⟨x1.heap.size, 2, none⟩ = some (.int .i64 s.Y.d) := (BY.out.old k2).cell (j := 2) rfl; have tf2 := (BY.out.old k2).frozen 2))
          all_goals
            have P1 : Hid (Blk (((a2.setCell ⟨x1.heap.size, 0, none⟩ (.bool K)).setCell ⟨x1.heap.size, 1, none⟩ (.int .i64 T.n)).setCell ⟨x1.heap.size, 2, none⟩ (.int .i64 T.d)) x1.heap.size #[.bool K, .int .i64 T.n, .int .i64 T.d] 93) := (((BY.out.old k2).set 0 _).set 1 _).set 2 _
            have P2 : Hid (Blk (((a2.setCell ⟨x1.heap.size, 0, none⟩ (.bool K)).setCell ⟨x1.heap.size, 1, none⟩ (.int .i64 T.n)).setCell ⟨x1.heap.size, 2, none⟩ (.int .i64 T.d)) x3.heap.size #[.bool true, .int .i64 s.U.n, .int .i64 s.U.d] 93) := (((BU.out.old k2).setOther (by have := Z1.out; have := Z2.out; have := Z3.out; have := Y2.out; have := Y4.out; have := HO0.out.size; simp <;> omega) _).setOther (by have := Z1.out; have := Z2.out; have := Z3.out; have := Y2.out; have := Y4.out; have := HO0.out.size; simp <;> omega) _).setOther (by have := Z1.out; have := Z2.out; have := Z3.out; have := Y2.out; have := Y4.out; have := HO0.out.size; simp <;> omega) _
            have P0 : Hid (Below wr.heap.size wr (((a2.setCell ⟨x1.heap.size, 0, none⟩ (.bool K)).setCell ⟨x1.heap.size, 1, none⟩ (.int .i64 T.n)).setCell ⟨x1.heap.size, 2, none⟩ (.int .i64 T.d))) := (((Below.trans HQ.out (k2.mono (Below.size HQ.out))).setCell (by have := Z1.out; have := Z2.out; have := Z3.out; have := Y2.out; have := Y4.out; have := HO0.out.size; simp <;> omega) _).setCell (by have := Z1.out; have := Z2.out; have := Z3.out; have := Y2.out; have := Y4.out; have := HO0.out.size; simp <;> omega) _).setCell (by have := Z1.out; have := Z2.out; have := Z3.out; have := Y2.out; have := Y4.out; have := HO0.out.size; simp <;> omega) _
            rw [hT, hK] at P0 P1 P2
            go_wp2_with fail
            go_meet
            case rel => exact ⟨rfl, P0, by first | exact P1 | (rw [hT, hK]; exact P1), by first | exact P2 | (rw [hT, hK]; exact P2)⟩
        case rest =>
          obtain ⟨rfl, N0, N1, N2⟩ := hcut
          obtain ⟨Y5, h5⟩ : ∃ v, v = wc := ⟨_, rfl⟩
          subst h5
          have HT : Hid (K = trK p s ∧ (K = true → trG p s = ⟨T, s.U⟩)) := by
            have e1 : p.k = 1 := by simpa using hk1
            refine ⟨?_, fun hh => ?_⟩
            · rw [hK]; unfold aK trK; rw [if_pos e1]; simp
            · have h2 : (true && mulK p.x s.U) = true := by rw [hK] at hh; unfold aK at hh; rw [Bool.and_eq_true] at hh; exact hh.1
              unfold trG; rw [if_pos e1, hT]; unfold aQ; rw [if_pos h2]
          clear hT hK
          have N6 : Hid (Below w.heap.size w Y5) := HO0.out.trans (N0.out.mono HO0.out.size)
          clear e0 e1 e2 cy0 cy1 cy2 cy3 HQ HO BY BU p0 p1 p2
          have d0 := N1.out.cell (j := 0) (v := .bool K) rfl
          have d1 := N1.out.cell (j := 1) (v := .int .i64 T.n) rfl
          have d2 := N1.out.cell (j := 2) (v := .int .i64 T.d) rfl
          have d3 := N2.out.cell (j := 0) (v := .bool true) rfl
          have d4 := N2.out.cell (j := 1) (v := .int .i64 s.U.n) rfl
          have d5 := N2.out.cell (j := 2) (v := .int .i64 s.U.d) rfl
          cases K with
          | false =>
            have c0 := (Blk.old HR.out N0.out).cell (j := 0) (v := .int .i64 0) rfl
            have c1 := (Blk.old HR.out N0.out).cell (j := 1) (v := .slice none 0 0) rfl
            have f0 := (Blk.old HR.out N0.out).frozen 0
            have f1 := (Blk.old HR.out N0.out).frozen 1
            have hno : Hid (trB G r n = false) := trB_no (i := k + 1) (by omega) (by rw [HN.out.2]; exact HT.out.1.symm)
            go_wp2
            refine bodyPost_ret (v := Pl 3 (.slice none 0 0)) (by simp [results, Try.results35, go_sem, c0, c1]) rfl ⟨.slice none 0 0, by rw [hno.out]; rfl, Or.inl ⟨rfl, by rw [hno.out]; rfl⟩, (N6.out.setCell (by simp) _).setCell (by simp) _⟩
          | true =>
            have c0 := (Blk.old HY.out N0.out).cell (j := 0) (v := .int .i64 s.Y.n) rfl
            have f0 := (Blk.old HY.out N0.out).frozen 0
            have c1 := (Blk.old HY.out N0.out).cell (j := 1) (v := .int .i64 s.Y.d) rfl
            have f1 := (Blk.old HY.out N0.out).frozen 1
            have c2 := (Blk.old HY.out N0.out).cell (j := 2) (v := .int .i64 s.U.n) rfl
            have f2 := (Blk.old HY.out N0.out).frozen 2
            have c3 := (Blk.old HY.out N0.out).cell (j := 3) (v := .int .i64 s.U.d) rfl
            have f3 := (Blk.old HY.out N0.out).frozen 3
            go_upto_region 18 with fail
            obtain ⟨Y6, h6⟩ : ∃ W, W = (((Y5.setCell ⟨w.heap.size, 0, none⟩ (.int .i64 T.n)).setCell ⟨w.heap.size, 1, none⟩ (.int .i64 T.d)).setCell ⟨w.heap.size, 2, none⟩ (.int .i64 s.U.n)).setCell ⟨w.heap.size, 3, none⟩ (.int .i64 s.U.d) := ⟨_, rfl⟩
            rw [← h6]
            have M1 : Hid (Blk Y6 w.heap.size #[.int .i64 T.n, .int .i64 T.d, .int .i64 s.U.n, .int .i64 s.U.d] 70) := by show Blk _ _ _ _; rw [h6]; exact ((((Blk.old HY.out N0.out).set 0 _).set 1 _).set 2 _).set 3 _
            have M2 : Hid (Blk Y6 (w.heap.size + 1) #[.int .i64 0, .slice none 0 0] 67) := by show Blk _ _ _ _; rw [h6]; exact ((((Blk.old HR.out N0.out).setOther (by simp) _).setOther (by simp) _).setOther (by simp) _).setOther (by simp) _
            have M3 : Hid (OwR Y6 (w.heap.size + 2) v (k + 1) (tr G r)) := by show OwR _ _ _ _ _; rw [h6]; exact ((((HW.out.later N0.out).set (by omega)).set (by omega)).set (by omega)).set (by omega)
            have M4 : Hid (Below w.heap.size w Y6) := by show Below _ _ _; rw [h6]; exact (((N6.out.setCell (by simp) _).setCell (by simp) _).setCell (by simp) _).setCell (by simp) _
            have M5 : Hid (w.heap.size + 2 ≤ Y6.heap.size) := by show _ ≤ _; have := M2.out.lt; omega
            have HTS : Hid (tr G r (k + 1) = ⟨T, s.U⟩ ∧ trB G r (k + 1) = true) := ⟨HN.out.1.trans (HT.out.2 rfl), HN.out.2.trans HT.out.1.symm⟩
            clear h6 d0 d1 d2 d3 d4 d5 c0 c1 c2 c3 f0 f1 f2 f3 N0 N1 N2 N6 HT HN HY HR HW
            have c0 := M1.out.cell (j := 0) (v := .int .i64 T.n) rfl
            have c1 := M1.out.cell (j := 1) (v := .int .i64 T.d) rfl
            have c2 := M1.out.cell (j := 2) (v := .int .i64 s.U.n) rfl
            have c3 := M1.out.cell (j := 3) (v := .int .i64 s.U.d) rfl
            go_wp2_with (first | (at_builtin; refine push_law rfl (.tmp 74) (.tmp 76) 65 rfl 70 (.agg #[.int .i64 0, .int .i64 0, .int .i64 0, .int .i64 0]) 4 32 Try.underlying65 infoRy rfl (by decide) (by decide) Y6 [.int .i64 T.n, .int .i64 T.d, .int .i64 s.U.n, .int .i64 s.U.d] rfl (by intro u hu; simp at hu; rcases hu with rfl | rfl | rfl | rfl <;> rfl) (w.heap.size + 2) v (k + 1) _ rfl M3.out 1 rfl (by omega) M5.out ?_; intro v1 y7 own7 grow7 _))
            have b7 : Below (w.heap.size + 2) Y6 y7 := push_below M3.out grow7 (Below.refl _ _) M5.out
            have L1 : Hid (Blk y7 w.heap.size #[.int .i64 (tr G r (k + 1)).Y.n, .int .i64 (tr G r (k + 1)).Y.d, .int .i64 (tr G r (k + 1)).U.n, .int .i64 (tr G r (k + 1)).U.d] 70) := by rw [HTS.out.1]; exact (b7.block _ (by omega)).trans M1.out
            have L2 : Hid (Blk y7 (w.heap.size + 1) #[.int .i64 0, .slice none 0 0] 67) := (b7.block _ (by omega)).trans M2.out
            have L3 : Hid (OwR y7 (w.heap.size + 2) v1 (k + 1 + 1) (tr G r)) := by show World.ownsRow _ _ _ _ _ _ _; rw [flat_succ]; rw [HTS.out.1]; exact own7
            have L4 : Hid (Below w.heap.size w y7) := M4.out.trans (b7.mono (by omega))
            clear own7 grow7 b7 M1 M2 M3 M4 M5 c0 c1 c2 c3
            go_wp2
            first
            | (refine ⟨⟨k + 1, by omega, by simp, HTS.out.2, L1, L2, L3, L4⟩, by simp [intOf]; omega⟩)
            | (go_roundw; case rel => exact ⟨k + 1, by omega, by simp, HTS.out.2, L1, L2, L3, L4⟩; case measure => (simp [intOf]; omega))
      · have hk0 : (p.k == 1) = false := by simpa using hk1
        have hbx : x3.heap.size < x4.heap.size := BU.out.lt
        have e0 := BU.out.cell (j := 0) (v := .bool true) rfl
        have e1 := BU.out.cell (j := 1) (v := .int .i64 s.U.n) rfl
        have e2 := BU.out.cell (j := 2) (v := .int .i64 s.U.d) rfl
        have cy0 := (Blk.old HY.out HQ.out).cell (j := 0) (v := .int .i64 s.Y.n) rfl
        have cy1 := (Blk.old HY.out HQ.out).cell (j := 1) (v := .int .i64 s.Y.d) rfl
        have cy2 := (Blk.old HY.out HQ.out).cell (j := 2) (v := .int .i64 s.U.n) rfl
        have cy3 := (Blk.old HY.out HQ.out).cell (j := 3) (v := .int .i64 s.U.d) rfl
        obtain ⟨p0, p1, p2⟩ := HP.out x4 HO.out
        go_wp2_with fail
        obtain ⟨T, hT⟩ : ∃ T, T = leQ true s.U (mulK p.x s.Y) (mulQ p.x s.Y) := ⟨_, rfl⟩
        obtain ⟨K, hK⟩ : ∃ K, K = leK true s.U (mulK p.x s.Y) (mulQ p.x s.Y) := ⟨_, rfl⟩
        go_cut [8] from 50 to 59 (fun p wx => p = .pointer (some ⟨x1.heap.size, 0, none⟩) ∧ Hid (Below wr.heap.size wr wx) ∧ Hid (Blk wx x3.heap.size #[.bool K, .int .i64 T.n, .int .i64 T.d] 93) ∧ Hid (Blk wx x1.heap.size #[.bool true, .int .i64 s.Y.n, .int .i64 s.Y.d] 93))
        case first =>
          go_region_law (first | (go_simp; go_at_call 57; refine (smul7 p.x s.Y _).mono ?_; rintro e a1 ⟨rfl, hb1⟩; have k1 : Below x4.heap.size x4 a1 := ((Below.refl _ _).drew).trans hb1; have u0 : a1.cell? ⟨x3.heap.size, 0, none⟩ = some (.bool true) := (BU.out.old k1).cell (j := 0) rfl; have u1 : a1.cell? ⟨x3.heap.size, 1, none⟩ = some (.int .i64 s.U.n) := (BU.out.old k1).cell (j := 1) rfl; have u2 : a1.cell? ⟨x3.heap.size, 2, none⟩ = some (.int .i64 s.U.d) := (BU.out.old k1).cell (j := 2) rfl) | (go_simp; go_at_call 79; refine (sless true s.U (mulK p.x s.Y) (mulQ p.x s.Y) _ (mulQ_bd _ _).1 (mulQ_bd _ _).2).mono ?_; rintro e a2 ⟨rfl, hb2⟩; have k2 : Below x4.heap.size x4 a2 := k1.trans (hb2.mono k1.size); have t0 : a2.cell? ⟨x3.heap.size, 0, none⟩ = some (.bool true) := (BU.out.old k2).cell (j := 0) rfl; have tf0 := (BU.out.old k2).frozen 0; have t1 : a2.cell? ⟨x3.heap.size, 1, none⟩ = some (.int .i64 s.U.n) := (BU.out.old k2).cell (j := 1) rfl; have tf1 := (BU.out.old k2).frozen 1; have t2 : a2.cell? ⟨x3.heap.size, 2, none⟩ = some (.int .i64 s.U.d) := (BU.out.old k2).cell (j := 2) rfl; have tf2 := (BU.out.old k2).frozen 2))
          all_goals
            have P1 : Hid (Blk (((a2.setCell ⟨x3.heap.size, 0, none⟩ (.bool K)).setCell ⟨x3.heap.size, 1, none⟩ (.int .i64 T.n)).setCell ⟨x3.heap.size, 2, none⟩ (.int .i64 T.d)) x3.heap.size #[.bool K, .int .i64 T.n, .int .i64 T.d] 93) := (((BU.out.old k2).set 0 _).set 1 _).set 2 _
            have P2 : Hid (Blk (((a2.setCell ⟨x3.heap.size, 0, none⟩ (.bool K)).setCell ⟨x3.heap.size, 1, none⟩ (.int .i64 T.n)).setCell ⟨x3.heap.size, 2, none⟩ (.int .i64 T.d)) x1.heap.size #[.bool true, .int .i64 s.Y.n, .int .i64 s.Y.d] 93) := (((BY.out.old k2).setOther (by have := Z1.out; have := Z2.out; have := Z3.out; have := Y2.out; have := Y4.out; have := HO0.out.size; simp <;> omega) _).setOther (by have := Z1.out; have := Z2.out; have := Z3.out; have := Y2.out; have := Y4.out; have := HO0.out.size; simp <;> omega) _).setOther (by have := Z1.out; have := Z2.out; have := Z3.out; have := Y2.out; have := Y4.out; have := HO0.out.size; simp <;> omega) _
            have P0 : Hid (Below wr.heap.size wr (((a2.setCell ⟨x3.heap.size, 0, none⟩ (.bool K)).setCell ⟨x3.heap.size, 1, none⟩ (.int .i64 T.n)).setCell ⟨x3.heap.size, 2, none⟩ (.int .i64 T.d))) := (((Below.trans HQ.out (k2.mono (Below.size HQ.out))).setCell (by have := Z1.out; have := Z2.out; have := Z3.out; have := Y2.out; have := Y4.out; have := HO0.out.size; simp <;> omega) _).setCell (by have := Z1.out; have := Z2.out; have := Z3.out; have := Y2.out; have := Y4.out; have := HO0.out.size; simp <;> omega) _).setCell (by have := Z1.out; have := Z2.out; have := Z3.out; have := Y2.out; have := Y4.out; have := HO0.out.size; simp <;> omega) _
            rw [hT, hK] at P0 P1 P2
            go_wp2_with fail
            go_meet
            case rel => exact ⟨rfl, P0, by first | exact P1 | (rw [hT, hK]; exact P1), by first | exact P2 | (rw [hT, hK]; exact P2)⟩
        case rest =>
          obtain ⟨rfl, N0, N1, N2⟩ := hcut
          obtain ⟨Y5, h5⟩ : ∃ v, v = wc := ⟨_, rfl⟩
          subst h5
          have HT : Hid (K = trK p s ∧ (K = true → trG p s = ⟨s.Y, T⟩)) := by
            have e1 : ¬ p.k = 1 := by simpa using hk1
            refine ⟨?_, fun hh => ?_⟩
            · rw [hK]; unfold leK aK trK; rw [if_neg e1, subK_neg]; simp
            · have h2 : (true && mulK p.x s.Y) = true := by rw [hK] at hh; unfold leK aK at hh; rw [Bool.and_eq_true] at hh; exact hh.1
              unfold trG; rw [if_neg e1, hT]; unfold leQ aQ; rw [if_pos h2, (sub_neg _ _).2]
          clear hT hK
          have N6 : Hid (Below w.heap.size w Y5) := HO0.out.trans (N0.out.mono HO0.out.size)
          clear e0 e1 e2 cy0 cy1 cy2 cy3 HQ HO BY BU p0 p1 p2
          have d0 := N2.out.cell (j := 0) (v := .bool true) rfl
          have d1 := N2.out.cell (j := 1) (v := .int .i64 s.Y.n) rfl
          have d2 := N2.out.cell (j := 2) (v := .int .i64 s.Y.d) rfl
          have d3 := N1.out.cell (j := 0) (v := .bool K) rfl
          have d4 := N1.out.cell (j := 1) (v := .int .i64 T.n) rfl
          have d5 := N1.out.cell (j := 2) (v := .int .i64 T.d) rfl
          cases K with
          | false =>
            have c0 := (Blk.old HR.out N0.out).cell (j := 0) (v := .int .i64 0) rfl
            have c1 := (Blk.old HR.out N0.out).cell (j := 1) (v := .slice none 0 0) rfl
            have f0 := (Blk.old HR.out N0.out).frozen 0
            have f1 := (Blk.old HR.out N0.out).frozen 1
            have hno : Hid (trB G r n = false) := trB_no (i := k + 1) (by omega) (by rw [HN.out.2]; exact HT.out.1.symm)
            go_wp2
            refine bodyPost_ret (v := Pl 3 (.slice none 0 0)) (by simp [results, Try.results35, go_sem, c0, c1]) rfl ⟨.slice none 0 0, by rw [hno.out]; rfl, Or.inl ⟨rfl, by rw [hno.out]; rfl⟩, (N6.out.setCell (by simp) _).setCell (by simp) _⟩
          | true =>
            have c0 := (Blk.old HY.out N0.out).cell (j := 0) (v := .int .i64 s.Y.n) rfl
            have f0 := (Blk.old HY.out N0.out).frozen 0
            have c1 := (Blk.old HY.out N0.out).cell (j := 1) (v := .int .i64 s.Y.d) rfl
            have f1 := (Blk.old HY.out N0.out).frozen 1
            have c2 := (Blk.old HY.out N0.out).cell (j := 2) (v := .int .i64 s.U.n) rfl
            have f2 := (Blk.old HY.out N0.out).frozen 2
            have c3 := (Blk.old HY.out N0.out).cell (j := 3) (v := .int .i64 s.U.d) rfl
            have f3 := (Blk.old HY.out N0.out).frozen 3
            go_upto_region 18 with fail
            obtain ⟨Y6, h6⟩ : ∃ W, W = (((Y5.setCell ⟨w.heap.size, 0, none⟩ (.int .i64 s.Y.n)).setCell ⟨w.heap.size, 1, none⟩ (.int .i64 s.Y.d)).setCell ⟨w.heap.size, 2, none⟩ (.int .i64 T.n)).setCell ⟨w.heap.size, 3, none⟩ (.int .i64 T.d) := ⟨_, rfl⟩
            rw [← h6]
            have M1 : Hid (Blk Y6 w.heap.size #[.int .i64 s.Y.n, .int .i64 s.Y.d, .int .i64 T.n, .int .i64 T.d] 70) := by show Blk _ _ _ _; rw [h6]; exact ((((Blk.old HY.out N0.out).set 0 _).set 1 _).set 2 _).set 3 _
            have M2 : Hid (Blk Y6 (w.heap.size + 1) #[.int .i64 0, .slice none 0 0] 67) := by show Blk _ _ _ _; rw [h6]; exact ((((Blk.old HR.out N0.out).setOther (by simp) _).setOther (by simp) _).setOther (by simp) _).setOther (by simp) _
            have M3 : Hid (OwR Y6 (w.heap.size + 2) v (k + 1) (tr G r)) := by show OwR _ _ _ _ _; rw [h6]; exact ((((HW.out.later N0.out).set (by omega)).set (by omega)).set (by omega)).set (by omega)
            have M4 : Hid (Below w.heap.size w Y6) := by show Below _ _ _; rw [h6]; exact (((N6.out.setCell (by simp) _).setCell (by simp) _).setCell (by simp) _).setCell (by simp) _
            have M5 : Hid (w.heap.size + 2 ≤ Y6.heap.size) := by show _ ≤ _; have := M2.out.lt; omega
            have HTS : Hid (tr G r (k + 1) = ⟨s.Y, T⟩ ∧ trB G r (k + 1) = true) := ⟨HN.out.1.trans (HT.out.2 rfl), HN.out.2.trans HT.out.1.symm⟩
            clear h6 d0 d1 d2 d3 d4 d5 c0 c1 c2 c3 f0 f1 f2 f3 N0 N1 N2 N6 HT HN HY HR HW
            have c0 := M1.out.cell (j := 0) (v := .int .i64 s.Y.n) rfl
            have c1 := M1.out.cell (j := 1) (v := .int .i64 s.Y.d) rfl
            have c2 := M1.out.cell (j := 2) (v := .int .i64 T.n) rfl
            have c3 := M1.out.cell (j := 3) (v := .int .i64 T.d) rfl
            go_wp2_with (first | (at_builtin; refine push_law rfl (.tmp 74) (.tmp 76) 65 rfl 70 (.agg #[.int .i64 0, .int .i64 0, .int .i64 0, .int .i64 0]) 4 32 Try.underlying65 infoRy rfl (by decide) (by decide) Y6 [.int .i64 s.Y.n, .int .i64 s.Y.d, .int .i64 T.n, .int .i64 T.d] rfl (by intro u hu; simp at hu; rcases hu with rfl | rfl | rfl | rfl <;> rfl) (w.heap.size + 2) v (k + 1) _ rfl M3.out 1 rfl (by omega) M5.out ?_; intro v1 y7 own7 grow7 _))
            have b7 : Below (w.heap.size + 2) Y6 y7 := push_below M3.out grow7 (Below.refl _ _) M5.out
            have L1 : Hid (Blk y7 w.heap.size #[.int .i64 (tr G r (k + 1)).Y.n, .int .i64 (tr G r (k + 1)).Y.d, .int .i64 (tr G r (k + 1)).U.n, .int .i64 (tr G r (k + 1)).U.d] 70) := by rw [HTS.out.1]; exact (b7.block _ (by omega)).trans M1.out
            have L2 : Hid (Blk y7 (w.heap.size + 1) #[.int .i64 0, .slice none 0 0] 67) := (b7.block _ (by omega)).trans M2.out
            have L3 : Hid (OwR y7 (w.heap.size + 2) v1 (k + 1 + 1) (tr G r)) := by show World.ownsRow _ _ _ _ _ _ _; rw [flat_succ]; rw [HTS.out.1]; exact own7
            have L4 : Hid (Below w.heap.size w y7) := M4.out.trans (b7.mono (by omega))
            clear own7 grow7 b7 M1 M2 M3 M4 M5 c0 c1 c2 c3
            go_wp2
            first
            | (refine ⟨⟨k + 1, by omega, by simp, HTS.out.2, L1, L2, L3, L4⟩, by simp [intOf]; omega⟩)
            | (go_roundw; case rel => exact ⟨k + 1, by omega, by simp, HTS.out.2, L1, L2, L3, L4⟩; case measure => (simp [intOf]; omega))
    · obtain rfl : n = k := by omega
      have hall : Hid (trB G r n = true) := htr
      have c0 := HR.out.cell (j := 0) (v := .int .i64 0) rfl
      have c1 := HR.out.cell (j := 1) (v := .slice none 0 0) rfl
      have f0 := HR.out.frozen 0
      have f1 := HR.out.frozen 1
      obtain ⟨ao, cp, rfl⟩ := HW.out.seg.form
      clear HC htr
      go_wp2
      refine bodyPost_ret (v := Pl 0 (.slice ao (n + 1) cp)) (by simp [results, Try.results35, go_sem, c0, c1]) rfl ⟨.slice ao (n + 1) cp, by rw [hall.out]; rfl, ?_, (HO.out.setCell (by simp) _).setCell (by simp) _⟩
      rw [hall.out]
      show OwV 70 4 _ _ _ _ (n + 1) _
      rcases HW.out.seg with ⟨e1, e2⟩ | ⟨g, cq, e1, h1, h2, h3⟩
      · exact Or.inl ⟨e1, e2⟩
      · exact Or.inr ⟨g, cq, e1, by omega, by simpa using h2, (h3.setOther (by omega) _).setOther (by omega) _⟩
end Go.Proofs.Ytnikgmjjkdhjbaa
