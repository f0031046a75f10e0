/- A list of parts: their system, as the specification reckons it. -/
import Derived.Test.YtkkajcdjkfbcgaaPp
import Derived.Test.YtkkajcdjkfbcgaaPf
namespace Go.Proofs.Ytkkajcdjkfbcgaa
open Go.RowKit
set_option linter.unusedVariables false
set_option linter.unusedSimpArgs false
theorem Blk.set {W : World} {b : Nat} {cs : Array Value} {t : TypeId} (h : Blk W b cs t) (j : Nat) (v : Value) : Blk (W.setCell ⟨b, j, none⟩ v) b (cs.setIfInBounds j v) t := by
  have h' : W.heap[b]? = some (.cells cs t (0, 0)) := h
  simp [Blk, World.setCell, Array.getElem?_modify, h']
theorem blk9 {W : World} {b : Nat} {t : TypeId} {c0 c1 c2 c3 c4 c5 c6 c7 c8 : Value} (h : Blk W b #[c0, c1, c2, c3, c4, c5, c6, c7, c8] t) (v0 v1 v2 v3 v4 v5 v6 v7 v8 : Value) :
    Blk (((((((((W.setCell ⟨b, 0, none⟩ v0).setCell ⟨b, 1, none⟩ v1).setCell ⟨b, 2, none⟩ v2).setCell ⟨b, 3, none⟩ v3).setCell ⟨b, 4, none⟩ v4).setCell ⟨b, 5, none⟩ v5).setCell ⟨b, 6, none⟩ v6).setCell ⟨b, 7, none⟩ v7).setCell ⟨b, 8, none⟩ v8) b #[v0, v1, v2, v3, v4, v5, v6, v7, v8] t := by
  have := ((((((((h.set 0 v0).set 1 v1).set 2 v2).set 3 v3).set 4 v4).set 5 v5).set 6 v6).set 7 v7).set 8 v8
  simpa using this
def pM (p : Pt) : Mx := partM p.k p.x
theorem pt_x {p : Pt} (h : p.ok = true) : p.x.ok = true := by
  have e := pt_yes h
  unfold pfault at e
  split at e
  · unfold fault at e
    split at e
    · rename_i hr; exact hr
    · exact absurd e (by decide)
  · exact absurd e (by decide)
theorem spart (p : Pt) (h : p.ok = true) (w : World) : Calls Try.prog 79 #[.agg #[.int .i64 p.k, .int .i64 p.x.n, .int .i64 p.x.d]] w fun e w' => e = .returned (.agg #[.int .i64 (pM p).A.n, .int .i64 (pM p).A.d, .int .i64 (pM p).B.n, .int .i64 (pM p).B.d, .int .i64 (pM p).C.n, .int .i64 (pM p).C.d, .int .i64 (pM p).D.n, .int .i64 (pM p).D.d]) ∧ Below w.heap.size w w' := by
  have hb := ok_bd (pt_x h)
  by_cases hk : p.k = 1
  · rw [show pM p = ⟨one, p.x, nil, one⟩ from if_pos hk]
    exact spart_g p.k p.x w (by simpa using hk)
  · rw [show pM p = ⟨one, nil, nQ p.x, one⟩ from if_neg hk]
    exact spart_p p.k p.x w (by simpa using hk) hb.1 hb.2
def unitM : Mx := ⟨one, nil, nil, one⟩
def joinM (a b : Mx) : Mx := ⟨sel (jC a b) (jQA a b), sel (jC a b) (jQB a b), sel (jC a b) (jQC a b), sel (jC a b) (jQD a b)⟩
/-- What the first parts come to. -/
def moS (G : Nat → Pt) : Nat → Int × Mx
  | 0 => (0, unitM)
  | i + 1 => if (moS G i).1 = 0 then (jC (moS G i).2 (pM (G i)), joinM (moS G i).2 (pM (G i))) else moS G i
theorem mo_next {G : Nat → Pt} {i : Nat} (h : (moS G i).1 = 0) : moS G (i + 1) = (jC (moS G i).2 (pM (G i)), joinM (moS G i).2 (pM (G i))) := if_pos h
theorem mo_stop {G : Nat → Pt} {i : Nat} (h : ¬ (moS G i).1 = 0) (d : Nat) : moS G (i + d) = moS G i := by
  induction d with
  | zero => rfl
  | succ d ih => show (if (moS G (i + d)).1 = 0 then _ else moS G (i + d)) = moS G i; rw [ih, if_neg h]
def zM : Mx := ⟨zQ, zQ, zQ, zQ⟩
def mC (G : Nat → Pt) (n : Nat) : Int := if lC G n = 0 then (moS G n).1 else lC G n
def mM (G : Nat → Pt) (n : Nat) : Mx := if lC G n = 0 then (moS G n).2 else zM
set_option maxRecDepth 20000 in
set_option maxHeartbeats 400000 in
theorem smatrix_0 (b off n cap : Nat) (G : Nat → Pt) (w : World) (hn : n ≤ 1000000000) (hc : RdP w b off n G) (h : ¬ lC G n = 0) :
    Calls Try.prog 23 #[.slice (some ⟨b, off, none⟩) n cap] w fun e w' => e = .returned (.agg #[.int .i64 (lC G n), .int .i64 0, .int .i64 0, .int .i64 0, .int .i64 0, .int .i64 0, .int .i64 0, .int .i64 0, .int .i64 0]) ∧ Below w.heap.size w w' := by
  have q : (lC G n != 0) = true := by simpa using h
  go_enter Try.func23, Try.ntmps23
  go_wp2_with fail
  refine (sparts b off n cap G _ hn (hc.old (below_of_alloc rfl))).mono ?_
  rintro e w1 ⟨rfl, hb⟩
  have RB : Hid (Blk w1 w.heap.size #[.int .i64 0, .int .i64 0, .int .i64 0, .int .i64 0, .int .i64 0, .int .i64 0, .int .i64 0, .int .i64 0, .int .i64 0] 46) := Blk.old (Blk.new rfl) hb
  have HO : Hid (Below w.heap.size w w1) := by refine box_step ?_ hb (by go_size); go_grown
  clear hb hc
  have r0 := RB.out.cell (j := 0) rfl
  have r1 := RB.out.cell (j := 1) rfl
  have r2 := RB.out.cell (j := 2) rfl
  have r3 := RB.out.cell (j := 3) rfl
  have r4 := RB.out.cell (j := 4) rfl
  have r5 := RB.out.cell (j := 5) rfl
  have r6 := RB.out.cell (j := 6) rfl
  have r7 := RB.out.cell (j := 7) rfl
  have r8 := RB.out.cell (j := 8) rfl
  have rf := RB.out.frozen
  go_wp2
  refine bodyPost_ret (v := .agg #[.int .i64 (lC G n), .int .i64 0, .int .i64 0, .int .i64 0, .int .i64 0, .int .i64 0, .int .i64 0, .int .i64 0, .int .i64 0]) (by simp [results, Try.results23, go_sem, r0, r1, r2, r3, r4, r5, r6, r7, r8] <;> (repeat' (first | rfl | apply And.intro))) rfl ⟨rfl, ?_⟩
  have h := HO.out
  go_grown
set_option maxRecDepth 20000 in
set_option maxHeartbeats 6400000 in
theorem smatrix_1 (b off n cap : Nat) (G : Nat → Pt) (w : World) (hn : n ≤ 1000000000) (hc : RdP w b off n G) (h : lC G n = 0) (hall : allP G n = true) :
    Calls Try.prog 23 #[.slice (some ⟨b, off, none⟩) n cap] w fun e w' => e = .returned (.agg #[.int .i64 (moS G n).1, .int .i64 (moS G n).2.A.n, .int .i64 (moS G n).2.A.d, .int .i64 (moS G n).2.B.n, .int .i64 (moS G n).2.B.d, .int .i64 (moS G n).2.C.n, .int .i64 (moS G n).2.C.d, .int .i64 (moS G n).2.D.n, .int .i64 (moS G n).2.D.d]) ∧ Below w.heap.size w w' := by
  have q : (lC G n != 0) = false := by simpa using h
  go_enter Try.func23, Try.ntmps23
  go_wp2_with fail
  refine (sparts b off n cap G _ hn (hc.old (below_of_alloc rfl))).mono ?_
  rintro e w1 ⟨rfl, hb⟩
  have RB : Hid (Blk w1 w.heap.size #[.int .i64 0, .int .i64 0, .int .i64 0, .int .i64 0, .int .i64 0, .int .i64 0, .int .i64 0, .int .i64 0, .int .i64 0] 46) := Blk.old (Blk.new rfl) hb
  have HO : Hid (Below w.heap.size w w1) := by refine box_step ?_ hb (by go_size); go_grown
  have HC : Hid (RdP w1 b off n G) := (hc.old (below_of_alloc rfl)).old hb
  clear hb hc
  go_wp2_with fail
  refine (sone _).mono ?_
  rintro e w2 ⟨rfl, hb⟩
  have RB : Hid (Blk w2 w.heap.size #[.int .i64 0, .int .i64 0, .int .i64 0, .int .i64 0, .int .i64 0, .int .i64 0, .int .i64 0, .int .i64 0, .int .i64 0] 46) := Blk.old RB.out hb
  have HO : Hid (Below w.heap.size w w2) := box_step HO.out hb (by first | exact Nat.le_refl _ | exact HO.out.size)
  have HC : Hid (RdP w2 b off n G) := HC.out.old hb
  clear hb q
  go_wp2_with fail
  go_loopw [5] (fun i wr => ∃ k : Nat, k ≤ n ∧ i = .int .i64 k ∧ Below w2.heap.size w2 wr ∧ Blk wr w2.heap.size #[.int .i64 (moS G k).1, .int .i64 (moS G k).2.A.n, .int .i64 (moS G k).2.A.d, .int .i64 (moS G k).2.B.n, .int .i64 (moS G k).2.B.d, .int .i64 (moS G k).2.C.n, .int .i64 (moS G k).2.C.d, .int .i64 (moS G k).2.D.n, .int .i64 (moS G k).2.D.d] 46) (fun i _ => n - (intOf i).toNat)
  case atStart => exact ⟨0, Nat.zero_le _, rfl, (Below.refl _ _).alloc (Nat.le_refl _) _, Blk.new rfl⟩
  case round =>
    obtain ⟨k, hk, rfl, hB, hP⟩ := hrel
    have HB : Hid (Below w2.heap.size w2 wr) := hB
    have HP : Hid (Blk wr w2.heap.size #[.int .i64 (moS G k).1, .int .i64 (moS G k).2.A.n, .int .i64 (moS G k).2.A.d, .int .i64 (moS G k).2.B.n, .int .i64 (moS G k).2.B.d, .int .i64 (moS G k).2.C.n, .int .i64 (moS G k).2.C.d, .int .i64 (moS G k).2.D.n, .int .i64 (moS G k).2.D.d] 46) := hP
    have p0 := hP.cell (j := 0) rfl
    have p1 := hP.cell (j := 1) rfl
    have p2 := hP.cell (j := 2) rfl
    have p3 := hP.cell (j := 3) rfl
    have p4 := hP.cell (j := 4) rfl
    have p5 := hP.cell (j := 5) rfl
    have p6 := hP.cell (j := 6) rfl
    have p7 := hP.cell (j := 7) rfl
    have p8 := hP.cell (j := 8) rfl
    have hne : w.heap.size ≠ w2.heap.size := by have := RB.out.lt; omega
    clear hP hB
    have fin : ∀ m, m = moS G k → True := fun _ _ => trivial
    clear fin
    by_cases hkn : k < n ∧ (moS G k).1 = 0
    · obtain ⟨hkn, hz⟩ := hkn
      have hzb : ((moS G k).1 == 0) = true := by simpa using hz
      have hok := allP_at hall hkn
      have hlt : w2.heap.size < wr.heap.size := HP.out.lt
      obtain ⟨g0, g1, g2⟩ := (HC.out.old HB.out) k hkn
      have l0 : ∀ W, Below wr.heap.size wr W → W.cell? ⟨b, off + k * 3, none⟩ = some (.int .i64 (G k).k) := fun _ h => kold h g0
      have l1 : ∀ W, Below wr.heap.size wr W → W.cell? ⟨b, off + k * 3 + 1, none⟩ = some (.int .i64 (G k).x.n) := fun _ h => kold h g1
      have l2 : ∀ W, Below wr.heap.size wr W → W.cell? ⟨b, off + k * 3 + 2, none⟩ = some (.int .i64 (G k).x.d) := fun _ h => kold h g2
      have m0 : ∀ W, Below wr.heap.size wr W → W.cell? ⟨w2.heap.size, 0, none⟩ = some (.int .i64 (moS G k).1) := fun _ h => kold h p0
      have m1 : ∀ W, Below wr.heap.size wr W → W.cell? ⟨w2.heap.size, 1, none⟩ = some (.int .i64 (moS G k).2.A.n) := fun _ h => kold h p1
      have m2 : ∀ W, Below wr.heap.size wr W → W.cell? ⟨w2.heap.size, 2, none⟩ = some (.int .i64 (moS G k).2.A.d) := fun _ h => kold h p2
      have m3 : ∀ W, Below wr.heap.size wr W → W.cell? ⟨w2.heap.size, 3, none⟩ = some (.int .i64 (moS G k).2.B.n) := fun _ h => kold h p3
      have m4 : ∀ W, Below wr.heap.size wr W → W.cell? ⟨w2.heap.size, 4, none⟩ = some (.int .i64 (moS G k).2.B.d) := fun _ h => kold h p4
      have m5 : ∀ W, Below wr.heap.size wr W → W.cell? ⟨w2.heap.size, 5, none⟩ = some (.int .i64 (moS G k).2.C.n) := fun _ h => kold h p5
      have m6 : ∀ W, Below wr.heap.size wr W → W.cell? ⟨w2.heap.size, 6, none⟩ = some (.int .i64 (moS G k).2.C.d) := fun _ h => kold h p6
      have m7 : ∀ W, Below wr.heap.size wr W → W.cell? ⟨w2.heap.size, 7, none⟩ = some (.int .i64 (moS G k).2.D.n) := fun _ h => kold h p7
      have m8 : ∀ W, Below wr.heap.size wr W → W.cell? ⟨w2.heap.size, 8, none⟩ = some (.int .i64 (moS G k).2.D.d) := fun _ h => kold h p8
      have gf : ∀ W j, Below wr.heap.size wr W → W.frozen? ⟨w2.heap.size, j, none⟩ = false := fun _ j h => (Blk.old HP.out h).frozen j
      have hQ0 : Below wr.heap.size wr wr.drew := (Below.refl _ _).drew
      clear g0 g1 g2
      go_wp2_with fail
      go_region_with (first | (go_at_call 79; refine (spart (G k) hok _).mono ?_; rintro e wz ⟨rfl, hb1⟩; have hs1 := hb1.size; (try simp at hs1); have hQ1 : Below wr.heap.size wr wz := (by refine box_step ?_ hb1 (by go_size); go_grown)) | (go_at_call 78; refine (sjoin (moS G k).2 (pM (G k)) _).mono ?_; rintro e wz ⟨rfl, hb1⟩; have hs1 := hb1.size; (try simp at hs1); have hQ1 : Below wr.heap.size wr wz := (by refine box_step ?_ hb1 (by go_size); go_grown)))
      all_goals
        have HPZ : Hid (Blk wz w2.heap.size #[.int .i64 (moS G k).1, .int .i64 (moS G k).2.A.n, .int .i64 (moS G k).2.A.d, .int .i64 (moS G k).2.B.n, .int .i64 (moS G k).2.B.d, .int .i64 (moS G k).2.C.n, .int .i64 (moS G k).2.C.d, .int .i64 (moS G k).2.D.n, .int .i64 (moS G k).2.D.d] 46) := Blk.old HP.out hQ1
        have HRZ : Hid (Below w2.heap.size w2 wz) := HB.out.trans (hQ1.mono (Nat.le_of_lt hlt))
        repeat go_step
        go_roundw
        case rel =>
          refine ⟨k + 1, by omega, by simp, ?_, ?_⟩
          · have h := HRZ.out
            clear l0 l1 l2 gf hQ0 m0 m1 m2 m3 m4 m5 m6 m7 m8
            go_grown
          · have hh := blk9 HPZ.out (.int .i64 (jC (moS G k).2 (pM (G k)))) (.int .i64 (sel (jC (moS G k).2 (pM (G k))) (jQA (moS G k).2 (pM (G k)))).n) (.int .i64 (sel (jC (moS G k).2 (pM (G k))) (jQA (moS G k).2 (pM (G k)))).d) (.int .i64 (sel (jC (moS G k).2 (pM (G k))) (jQB (moS G k).2 (pM (G k)))).n) (.int .i64 (sel (jC (moS G k).2 (pM (G k))) (jQB (moS G k).2 (pM (G k)))).d) (.int .i64 (sel (jC (moS G k).2 (pM (G k))) (jQC (moS G k).2 (pM (G k)))).n) (.int .i64 (sel (jC (moS G k).2 (pM (G k))) (jQC (moS G k).2 (pM (G k)))).d) (.int .i64 (sel (jC (moS G k).2 (pM (G k))) (jQD (moS G k).2 (pM (G k)))).n) (.int .i64 (sel (jC (moS G k).2 (pM (G k))) (jQD (moS G k).2 (pM (G k)))).d)
            have e := mo_next (G := G) (i := k) hz
            clear l0 l1 l2 gf hQ0 m0 m1 m2 m3 m4 m5 m6 m7 m8
            simp only [e, joinM]
            exact hh
        case measure => simp [intOf]; omega
    · have e : moS G n = moS G k := by
        by_cases hz : (moS G k).1 = 0
        · rw [show k = n from by omega]
        · have := mo_stop hz (n - k)
          rwa [show k + (n - k) = n from by omega] at this
      have RR : Blk wr w.heap.size #[.int .i64 0, .int .i64 0, .int .i64 0, .int .i64 0, .int .i64 0, .int .i64 0, .int .i64 0, .int .i64 0, .int .i64 0] 46 := Blk.old RB.out HB.out
      have r0 := RR.cell (j := 0) rfl
      have r1 := RR.cell (j := 1) rfl
      have r2 := RR.cell (j := 2) rfl
      have r3 := RR.cell (j := 3) rfl
      have r4 := RR.cell (j := 4) rfl
      have r5 := RR.cell (j := 5) rfl
      have r6 := RR.cell (j := 6) rfl
      have r7 := RR.cell (j := 7) rfl
      have r8 := RR.cell (j := 8) rfl
      have rf := RR.frozen
      have HE : Hid (moS G n = moS G k) := e
      clear e RR
      by_cases hk2 : k < n
      · have hzb : ((moS G k).1 == 0) = false := by simpa using fun h => hkn ⟨hk2, h⟩
        go_upto_region 9 with fail
        repeat go_step
        refine bodyPost_ret (v := .agg #[.int .i64 (moS G k).1, .int .i64 (moS G k).2.A.n, .int .i64 (moS G k).2.A.d, .int .i64 (moS G k).2.B.n, .int .i64 (moS G k).2.B.d, .int .i64 (moS G k).2.C.n, .int .i64 (moS G k).2.C.d, .int .i64 (moS G k).2.D.n, .int .i64 (moS G k).2.D.d]) (by simp [results, Try.results23, go_sem, r0, r1, r2, r3, r4, r5, r6, r7, r8] <;> (repeat' (first | rfl | apply And.intro))) rfl ⟨by rw [HE.out], ?_⟩
        have h := HO.out.trans (HB.out.mono HO.out.size)
        go_grown
      · go_upto_region 9 with fail
        repeat go_step
        refine bodyPost_ret (v := .agg #[.int .i64 (moS G k).1, .int .i64 (moS G k).2.A.n, .int .i64 (moS G k).2.A.d, .int .i64 (moS G k).2.B.n, .int .i64 (moS G k).2.B.d, .int .i64 (moS G k).2.C.n, .int .i64 (moS G k).2.C.d, .int .i64 (moS G k).2.D.n, .int .i64 (moS G k).2.D.d]) (by simp [results, Try.results23, go_sem, r0, r1, r2, r3, r4, r5, r6, r7, r8] <;> (repeat' (first | rfl | apply And.intro))) rfl ⟨by rw [HE.out], ?_⟩
        have h := HO.out.trans (HB.out.mono HO.out.size)
        go_grown
theorem lC_all {G : Nat → Pt} {n : Nat} (h : lC G n = 0) : allP G n = true := by
  unfold lC at h
  split at h
  · exact absurd h (by decide)
  · split at h
    · assumption
    · exact absurd h (by decide)
theorem smatrix (b off n cap : Nat) (G : Nat → Pt) (w : World) (hn : n ≤ 1000000000) (hc : RdP w b off n G) :
    Calls Try.prog 23 #[.slice (some ⟨b, off, none⟩) n cap] w fun e w' => e = .returned (.agg #[.int .i64 (mC G n), .int .i64 (mM G n).A.n, .int .i64 (mM G n).A.d, .int .i64 (mM G n).B.n, .int .i64 (mM G n).B.d, .int .i64 (mM G n).C.n, .int .i64 (mM G n).C.d, .int .i64 (mM G n).D.n, .int .i64 (mM G n).D.d]) ∧ Below w.heap.size w w' := by
  by_cases h : lC G n = 0
  · rw [show mC G n = (moS G n).1 from if_pos h, show mM G n = (moS G n).2 from if_pos h]
    exact smatrix_1 b off n cap G w hn hc h (lC_all h)
  · rw [show mC G n = lC G n from if_neg h, show mM G n = zM from if_neg h]
    exact smatrix_0 b off n cap G w hn hc h
end Go.Proofs.Ytkkajcdjkfbcgaa
