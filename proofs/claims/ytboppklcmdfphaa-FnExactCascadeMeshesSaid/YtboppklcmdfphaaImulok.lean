/- The program's product of right matrices: contract. -/
import Derived.Test.YtboppklcmdfphaaMulf
namespace Go.Proofs.Ytboppklcmdfphaa
open Go.RowKit
/-- The product, its rows ahead of i and the first j numbers of row i laid. -/
def prodTo (A B : Rm.Mx) (n i j : Nat) : Rm.Mx := fun r c => if r < i ∨ (r = i ∧ c < j) then Rm.dot A B r c n else 0
/-- The box of the result, as it was laid. -/
def Box (w : World) (b : Nat) (t : TypeId) : Prop := w.heap[b]? = some (.cells #[.int .i64 0, .slice none 0 0] t (0, 0))
theorem Box.later {w w' : World} {b B : Nat} {t : TypeId} (h : Box w b t) (hb : Below B w w') (hB : b < B) : Box w' b t := (hb.block b hB).trans h
theorem Box.c0 {w : World} {b : Nat} {t : TypeId} (h : Box w b t) : w.cell? ⟨b, 0, none⟩ = some (.int .i64 0) := by unfold Box at h; simp [World.cell?, h]
theorem Box.c1 {w : World} {b : Nat} {t : TypeId} (h : Box w b t) : w.cell? ⟨b, 1, none⟩ = some (.slice none 0 0) := by unfold Box at h; simp [World.cell?, h]
theorem Box.fz {w : World} {b : Nat} {t : TypeId} (h : Box w b t) (i : Nat) : w.frozen? ⟨b, i, none⟩ = false := by unfold Box at h; simp [World.frozen?, h]
theorem Box.lt {w : World} {b : Nat} {t : TypeId} (h : Box w b t) : b < w.heap.size := (Array.getElem?_eq_some_iff.1 h).1
theorem mat_boxed {b : Nat} {w : World} {m : Lie} {n : Nat} {L : Nat → Nat} {F : Rm.Mx} (h : Mat (b + 1) w.heap.size w m n L F) (x y : Value) :
    Mat b ((w.setCell ⟨b, 0, none⟩ x).setCell ⟨b, 1, none⟩ y).heap.size ((w.setCell ⟨b, 0, none⟩ x).setCell ⟨b, 1, none⟩ y) m n L F := by
  have := h.keep (w' := (w.setCell ⟨b, 0, none⟩ x).setCell ⟨b, 1, none⟩ y) fun k hk _ => by
    rw [Below.heap_setCell _ _ _ _ (by show k ≠ b; omega), Below.heap_setCell _ _ _ _ (by show k ≠ b; omega)]
  simp only [World.size_setCell]
  exact ⟨this.top, this.row, Nat.le_trans (Nat.le_succ _) this.blo, this.bhi, fun i hi => Nat.le_trans (Nat.le_succ _) (this.rlo i hi), this.rhi, this.apart⟩
structure MulIn (w0 w : World) (m ma mb : Lie) (n : Nat) (La Lb : Nat → Nat) (A B F : Rm.Mx) : Prop where
  a : Mat 0 w0.heap.size w ma n La A
  b : Mat 0 w0.heap.size w mb n Lb B
  box : Box w w0.heap.size 25
  m : Mat (w0.heap.size + 1) w.heap.size w m n (fun _ => n) F
  below : Below w0.heap.size w0 w
theorem MulIn.set {w0 w : World} {m ma mb : Lie} {n : Nat} {La Lb : Nat → Nat} {A B F : Rm.Mx} (h : MulIn w0 w m ma mb n La Lb A B F) {i j : Nat} (hi : i < n) (hj : j < n) (x : Int) :
    MulIn w0 (w.setCell ⟨m.bs i, m.os i + j, none⟩ (.int .i64 x)) m ma mb n La Lb A B (fun r c => if r = i ∧ c = j then x else F r c) := by
  have hl := h.m.rlo i hi
  refine ⟨h.a.keep fun k _ hk => Below.heap_setCell _ _ _ _ (by show k ≠ m.bs i; omega), h.b.keep fun k _ hk => Below.heap_setCell _ _ _ _ (by show k ≠ m.bs i; omega), ?_, ?_, h.below.setCell (by show w0.heap.size ≤ m.bs i; omega) _⟩
  · unfold Box
    rw [Below.heap_setCell _ _ _ _ (by show w0.heap.size ≠ m.bs i; omega)]
    exact h.box
  · have := h.m.set hi hj x
    rwa [← World.size_setCell (w := w) (a := ⟨m.bs i, m.os i + j, none⟩) (v := .int .i64 x)] at this
theorem MulIn.congr {w0 w : World} {m ma mb : Lie} {n : Nat} {La Lb : Nat → Nat} {A B F G : Rm.Mx} (h : MulIn w0 w m ma mb n La Lb A B F) (e : ∀ i j, i < n → j < n → F i j = G i j) : MulIn w0 w m ma mb n La Lb A B G :=
  ⟨h.a, h.b, h.box, h.m.congr e, h.below⟩
theorem MulIn.drewN {w0 w : World} {m ma mb : Lie} {n : Nat} {La Lb : Nat → Nat} {A B F : Rm.Mx} (h : MulIn w0 w m ma mb n La Lb A B F) (q : Nat) : MulIn w0 (w.drewN q) m ma mb n La Lb A B F :=
  ⟨h.a.keep fun _ _ _ => rfl, h.b.keep fun _ _ _ => rfl, h.box, h.m.keep fun _ _ _ => rfl, below_drewN h.below q⟩
set_option maxHeartbeats 1600000 in
theorem iMul_ok {ma mb : Lie} {n : Nat} {La Lb : Nat → Nat} {A B : Rm.Mx} {w : World} (hA : Mat 0 w.heap.size w ma n La A) (hB : Mat 0 w.heap.size w mb n Lb B) (hn : n ≤ 24)
    (hLa : ∀ k, k < n → La k = n) (hLb : ∀ k, k < n → Lb k = n) (hc : faultOf n La = 0) (hd : faultOf n Lb = 0) :
    Calls Try.prog 91 #[.slice (some ⟨ma.b, 0, none⟩) n ma.cap, .slice (some ⟨mb.b, 0, none⟩) n mb.cap] w fun e w' => ∃ m : Lie, e = .returned (.agg #[.int .i64 0, .slice (some ⟨m.b, 0, none⟩) n m.cap]) ∧
      Mat w.heap.size w'.heap.size w' m n (fun _ => n) (fun i j => Rm.dot A B i j n) ∧ Below w.heap.size w w' := by
  have TA : ∀ o, Hid (Tops (w.alloc o) ma.b 0 n La) := fun o => hA.tops.alloc o
  have TB : ∀ o, Hid (Tops (w.alloc o) mb.b 0 n Lb) := fun o => hB.tops.alloc o
  have LA : Hid (∀ k, k < n → La k = n) := hLa
  have LB : Hid (∀ k, k < n → Lb k = n) := hLb
  have MA : Hid (Mat 0 w.heap.size w ma n La A) := hA
  have MB : Hid (Mat 0 w.heap.size w mb n Lb B) := hB
  have HC : Hid (faultOf n La = 0 ∧ faultOf n Lb = 0) := ⟨hc, hd⟩
  clear hA hB hLa hLb hc hd
  go_enter Try.func91, Try.ntmps91
  go_wp2_with fail
  refine (iFault_any _ _ _ _ La _ (by omega) (fun k hk => by rw [LA.out k hk]; omega) (TA _).out).mono ?_
  rintro e w1 ⟨rfl, rfl⟩
  rw [HC.out.1]
  go_wp2_with fail
  refine (iFault_any _ _ _ _ Lb _ (by omega) (fun k hk => by rw [LB.out k hk]; omega) (TB _).out).mono ?_
  rintro e w1 ⟨rfl, rfl⟩
  rw [HC.out.2]
  go_wp2_with fail
  refine (zeroRows_any _ _ _ (by omega) (by omega)).mono ?_
  rintro e w1 ⟨rfl, hm1, hb1⟩
  simp only [World.size_alloc] at hm1 hb1
  obtain ⟨m, hm⟩ : ∃ m : Lie, m = newLie (w.heap.size + 1) n (fun _ => n) := ⟨_, rfl⟩
  have e1 : m.b = w.heap.size + 1 := by rw [hm]; rfl
  have e2 : m.cap = n := by rw [hm]; rfl
  have E : Hid (m.b = w.heap.size + 1 ∧ m.cap = n) := ⟨e1, e2⟩
  have HI : Hid (MulIn w w1 m ma mb n La Lb A B (prodTo A B n 0 0)) := by
    rw [← hm] at hm1
    have key : ∀ k, k < w.heap.size → w1.heap[k]? = w.heap[k]? := fun k hk => (hb1.block k (by omega)).trans (Below.heap_alloc _ _ _ hk)
    refine ⟨MA.out.keep fun k _ hk => key k hk, MB.out.keep fun k _ hk => key k hk, (hb1.block _ (by omega)).trans (heap_alloc_new _ _), hm1.congr fun i j _ _ => by simp [prodTo], ?_⟩
    exact ((Below.refl _ _).alloc (Nat.le_refl _) _).trans (hb1.mono (by omega))
  clear hm1 hb1 hm e1 e2 TA TB MA MB HC
  go_wp2_with fail
  go_loopw [35] (fun c wr => ∃ i : Nat, i ≤ n ∧ c = .int .i64 i ∧ MulIn w wr m ma mb n La Lb A B (prodTo A B n i 0)) (fun c _ => n - (intOf c).toNat)
  case atStart => exact ⟨0, Nat.zero_le _, rfl, HI.out⟩
  case round =>
    obtain ⟨i, hi, rfl, hr⟩ := hrel
    clear HI
    have HO : Hid (MulIn w wr m ma mb n La Lb A B (prodTo A B n i 0)) := hr
    clear hr
    by_cases hin : i < n
    · go_wp2_with fail
      go_loopw [40] (fun c wx => ∃ j : Nat, j ≤ n ∧ c = .int .i64 j ∧ MulIn w wx m ma mb n La Lb A B (prodTo A B n i j)) (fun c _ => n - (intOf c).toNat)
      case atStart => exact ⟨0, Nat.zero_le _, rfl, HO.out⟩
      case round =>
        obtain ⟨j, hj, rfl, hr⟩ := hrel
        clear HO
        by_cases hjn : j < n
        · have HX : Hid (MulIn w wr m ma mb n La Lb A B (prodTo A B n i j)) := hr
          have g1 : wr.cell? ⟨w.heap.size + 1, i, none⟩ = some (.slice (some ⟨m.bs i, m.os i, none⟩) n (m.cs i)) := by rw [← E.out.1]; exact hr.m.cellRow hin
          have g2 : wr.cell? ⟨ma.b, i, none⟩ = some (.slice (some ⟨ma.bs i, ma.os i, none⟩) n (ma.cs i)) := by have := hr.a.cellRow hin; rw [LA.out i hin] at this; exact this
          have g3 : wr.cell? ⟨m.bs i, m.os i + j, none⟩ = some (.int .i64 (prodTo A B n i j i j)) := hr.m.cellAt hin hjn
          have g4 : wr.frozen? ⟨m.bs i, m.os i + j, none⟩ = false := (hr.m.row i hin).frozen _
          have HR : Hid (∀ k, k < n → wr.cell? ⟨ma.bs i, ma.os i + k, none⟩ = some (.int .i64 (A i k))) := fun k hk => hr.a.cellAt hin (by rw [LA.out i hin]; exact hk)
          clear hr
          go_wp2_with fail
          have HN : Hid (∀ q, MulIn w ((wr.drewN q).setCell ⟨m.bs i, m.os i + j, none⟩ (.int .i64 (Rm.dot A B i j n))) m ma mb n La Lb A B (prodTo A B n i (j + 1))) := fun q =>
            ((HX.out.drewN q).set hin hjn (Rm.dot A B i j n)).congr fun r c _ _ => by
              unfold prodTo
              by_cases e : r = i ∧ c = j
              · obtain ⟨rfl, rfl⟩ := e; simp
              · rw [if_neg e]
                by_cases e2 : r < i ∨ (r = i ∧ c < j)
                · rw [if_pos e2, if_pos (by omega)]
                · rw [if_neg e2, if_neg (by omega)]
          have HK : Hid (Calls Try.prog 115 #[.slice (some ⟨ma.bs i, ma.os i, none⟩) n (ma.cs i), .slice (some ⟨mb.b, 0, none⟩) n mb.cap, .int .i64 j] wr.drew fun e w' => e = .returned (.int .i64 (Rm.dot A B i j n)) ∧ ∃ q, w' = wr.drew.drewN q) :=
            rowCol_any (i := i) (A := A) (B := B) (lo := 0) (hi := w.heap.size) (L := Lb) _ _ _ (HX.out.b.keep fun _ _ _ => rfl) (by omega) LB.out hjn HR.out
          go_region_with (first | (go_at_call 115; refine HK.out.mono ?_; rintro e w1 ⟨rfl, q, rfl⟩))
          all_goals
            go_wp2
            exact ⟨⟨j + 1, by omega, by simp, HN.out _⟩, by simp [intOf]; omega⟩
        · obtain rfl : j = n := by omega
          have HX : Hid (MulIn w wr m ma mb j La Lb A B (prodTo A B j (i + 1) 0)) := hr.congr fun r c hr hc => by
            unfold prodTo
            by_cases e2 : r < i ∨ (r = i ∧ c < j)
            · rw [if_pos e2, if_pos (by omega)]
            · rw [if_neg e2, if_neg (by omega)]
          clear hr
          go_wp2
          exact ⟨⟨i + 1, by omega, by simp, HX.out⟩, by simp [intOf]; omega⟩
    · obtain rfl : i = n := by omega
      have c0 := HO.out.box.c0
      have c1 := HO.out.box.c1
      have f0 := HO.out.box.fz 0
      have f1 := HO.out.box.fz 1
      go_wp2
      refine bodyPost_ret (v := .agg #[.int .i64 0, .slice (some ⟨w.heap.size + 1, 0, none⟩) i i]) (by simp [results, Try.results91, go_sem, c0, c1]) rfl ⟨m, ?_, ?_, ?_⟩
      · rw [E.out.1, E.out.2]
      · exact mat_boxed (HO.out.m.congr fun r c hr hc => by unfold prodTo; rw [if_pos (Or.inl hr)]) _ _
      · exact (HO.out.below.setCell (Nat.le_refl _) _).setCell (Nat.le_refl _) _
end Go.Proofs.Ytboppklcmdfphaa
