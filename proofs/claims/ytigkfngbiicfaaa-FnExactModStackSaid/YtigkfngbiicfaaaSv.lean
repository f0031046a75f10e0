/- Stacks of plates over residues: the specification's ModStack: contract. The region that reckons a product loads and stores one block, in any order that the language leaves open: by an invariant. -/
import Derived.Test.YtigkfngbiicfaaaSu
namespace Go.Proofs.Ytigkfngbiicfaaa
open Go.RowKit
set_option linter.unusedVariables false
set_option linter.unusedSimpArgs false
set_option maxHeartbeats 8000000 in
set_option maxRecDepth 20000 in
theorem sStack_some (b off n cap : Nat) (G : Nat → Nat → Int) (w : World) (h0 : 0 < n) (hn : n ≤ 1000000000) (hc : ∀ i, i < n → ∀ j, j < 4 → w.cell? ⟨b, off + i * 4 + j, none⟩ = some (icl (G i) j)) :
    Calls Try.prog 28 #[.slice (some ⟨b, off, none⟩) n cap] w fun e w' => e = .returned (Mv (Wv.stk G n)) ∧ Below w.heap.size w w' := by
  have later : ∀ (wr : World) (p : Addr) {v : Value}, w.cell? p = some v → Below w.heap.size w wr → wr.cell? p = some v := fun wr p v h hb => (hb.cell (World.block_lt_of_cell? _ _ h)).trans h
  go_enter Try.func28, Try.ntmps28
  go_wp2_with fail
  go_loopw [4] (fun i wr => ∃ k : Nat, k ≤ n ∧ i = .int .i64 k ∧ Hid (Sk w wr (Wv.stk G k))) (fun i _ => n - (intOf i).toNat)
  case atStart => exact ⟨0, Nat.zero_le _, rfl, Sk.start w⟩
  case round =>
    obtain ⟨k, hk, rfl, HS⟩ := hrel
    by_cases hkn : k < n
    · obtain ⟨P, hP⟩ : ∃ P, P = Wv.stk G k := ⟨_, rfl⟩
      obtain ⟨Q, hQ⟩ : ∃ Q, Q = G k := ⟨_, rfl⟩
      have HPQ : Hid (Wv.stk G (k + 1) = Wv.mulP P Q) := by rw [hP, hQ]; rfl
      rw [← hP] at HS
      have g0 : wr.cell? ⟨b, off + k * 4, none⟩ = some (.int .i64 (Q 0)) := by rw [hQ]; exact later _ _ (hc k hkn 0 (by omega)) HS.out.2.2
      have g1 : wr.cell? ⟨b, off + k * 4 + 1, none⟩ = some (.int .i64 (Q 1)) := by rw [hQ]; exact later _ _ (hc k hkn 1 (by omega)) HS.out.2.2
      have g2 : wr.cell? ⟨b, off + k * 4 + 2, none⟩ = some (.int .i64 (Q 2)) := by rw [hQ]; exact later _ _ (hc k hkn 2 (by omega)) HS.out.2.2
      have g3 : wr.cell? ⟨b, off + k * 4 + 3, none⟩ = some (.int .i64 (Q 3)) := by rw [hQ]; exact later _ _ (hc k hkn 3 (by omega)) HS.out.2.2
      clear hc later hP hQ
      go_upto_region 6 with fail
      obtain ⟨Y, hY⟩ : ∃ Y, Y = wr.alloc (.cells #[.int .i64 (Q 0), .int .i64 (Q 1), .int .i64 (Q 2), .int .i64 (Q 3)] 34) := ⟨_, rfl⟩
      rw [← hY]
      have SY : Hid (Sk w Y P) := by rw [hY]; exact HS.out.later ((Below.refl _ _).alloc (Nat.le_refl _) _)
      have QY : Hid (Pk wr.heap.size Y Q) := by rw [hY]; exact heap_alloc_new _ _
      obtain ⟨PB, hPB⟩ : ∃ x, x = w.heap.size + 1 := ⟨_, rfl⟩
      obtain ⟨QB, hQB⟩ : ∃ x, x = wr.heap.size := ⟨_, rfl⟩
      rw [← hQB] at QY ⊢
      rw [← hPB]
      have HPB : Hid (PB = w.heap.size + 1) := hPB
      clear hY HS g0 g1 g2 g3 hPB hQB
      have X1 : Hid (Pk PB Y.drew P) := by rw [HPB.out]; exact SY.out.1
      have X2 : Hid (Pk QB Y.drew Q) := QY.out
      obtain ⟨X, hX⟩ : ∃ X, X = Y.drew := ⟨_, rfl⟩
      rw [← hX] at X1 X2
      have HX : Hid (X = Y.drew) := hX
      clear hX
      refine letA ?_
      intro a0 ha0
      have e3 : a0.tmps[3]?.getD undef = .pointer (some ⟨PB, 0, none⟩) := by rw [ha0]; rfl
      have e5 : a0.tmps[5]?.getD undef = .pointer (some ⟨QB, 0, none⟩) := by rw [ha0]; rfl
      have hsz : a0.tmps.size = 55 := by rw [ha0]; rfl
      replace ha0 : Hid (a0 = _) := ha0
      obtain ⟨LL, hLL⟩ : ∃ LL : List Lay, LL = [⟨0, 17, .pointer (some ⟨PB, 0, none⟩)⟩, ⟨1, 18, .int .i64 (P 0)⟩, ⟨2, 19, .pointer (some ⟨QB, 0, none⟩)⟩, ⟨3, 20, .int .i64 (Q 0)⟩, ⟨4, 21, .pointer (some ⟨PB, 1, none⟩)⟩, ⟨5, 22, .int .i64 (P 1)⟩, ⟨6, 23, .pointer (some ⟨QB, 2, none⟩)⟩, ⟨7, 24, .int .i64 (Q 2)⟩, ⟨8, 25, .int .i64 (Rm.addM (Rm.mulM (P 0) (Q 0)) (Rm.mulM (P 1) (Q 2)))⟩, ⟨9, 26, .pointer (some ⟨PB, 0, none⟩)⟩, ⟨10, 27, .int .i64 (P 0)⟩, ⟨11, 28, .pointer (some ⟨QB, 1, none⟩)⟩, ⟨12, 29, .int .i64 (Q 1)⟩, ⟨13, 30, .pointer (some ⟨PB, 1, none⟩)⟩, ⟨14, 31, .int .i64 (P 1)⟩, ⟨15, 32, .pointer (some ⟨QB, 3, none⟩)⟩, ⟨16, 33, .int .i64 (Q 3)⟩, ⟨17, 34, .int .i64 (Rm.addM (Rm.mulM (P 0) (Q 1)) (Rm.mulM (P 1) (Q 3)))⟩, ⟨18, 35, .pointer (some ⟨PB, 2, none⟩)⟩, ⟨19, 36, .int .i64 (P 2)⟩, ⟨20, 37, .pointer (some ⟨QB, 0, none⟩)⟩, ⟨21, 38, .int .i64 (Q 0)⟩, ⟨22, 39, .pointer (some ⟨PB, 3, none⟩)⟩, ⟨23, 40, .int .i64 (P 3)⟩, ⟨24, 41, .pointer (some ⟨QB, 2, none⟩)⟩, ⟨25, 42, .int .i64 (Q 2)⟩, ⟨26, 43, .int .i64 (Rm.addM (Rm.mulM (P 2) (Q 0)) (Rm.mulM (P 3) (Q 2)))⟩, ⟨27, 44, .pointer (some ⟨PB, 2, none⟩)⟩, ⟨28, 45, .int .i64 (P 2)⟩, ⟨29, 46, .pointer (some ⟨QB, 1, none⟩)⟩, ⟨30, 47, .int .i64 (Q 1)⟩, ⟨31, 48, .pointer (some ⟨PB, 3, none⟩)⟩, ⟨32, 49, .int .i64 (P 3)⟩, ⟨33, 50, .pointer (some ⟨QB, 3, none⟩)⟩, ⟨34, 51, .int .i64 (Q 3)⟩, ⟨35, 52, .int .i64 (Rm.addM (Rm.mulM (P 2) (Q 1)) (Rm.mulM (P 3) (Q 3)))⟩, ⟨36, 53, .agg #[.int .i64 (Rm.addM (Rm.mulM (P 0) (Q 0)) (Rm.mulM (P 1) (Q 2))), .int .i64 (Rm.addM (Rm.mulM (P 0) (Q 1)) (Rm.mulM (P 1) (Q 3))), .int .i64 (Rm.addM (Rm.mulM (P 2) (Q 0)) (Rm.mulM (P 3) (Q 2))), .int .i64 (Rm.addM (Rm.mulM (P 2) (Q 1)) (Rm.mulM (P 3) (Q 3)))]⟩] := ⟨_, rfl⟩
      have hpw : LL.Pairwise (fun x y => x.d ≠ y.d ∧ x.i ≠ y.i) := by rw [hLL]; simp
      have m0 : (⟨0, 17, .pointer (some ⟨PB, 0, none⟩)⟩ : Lay) ∈ LL := by rw [hLL]; simp
      have m1 : (⟨1, 18, .int .i64 (P 0)⟩ : Lay) ∈ LL := by rw [hLL]; simp
      have m2 : (⟨2, 19, .pointer (some ⟨QB, 0, none⟩)⟩ : Lay) ∈ LL := by rw [hLL]; simp
      have m3 : (⟨3, 20, .int .i64 (Q 0)⟩ : Lay) ∈ LL := by rw [hLL]; simp
      have m4 : (⟨4, 21, .pointer (some ⟨PB, 1, none⟩)⟩ : Lay) ∈ LL := by rw [hLL]; simp
      have m5 : (⟨5, 22, .int .i64 (P 1)⟩ : Lay) ∈ LL := by rw [hLL]; simp
      have m6 : (⟨6, 23, .pointer (some ⟨QB, 2, none⟩)⟩ : Lay) ∈ LL := by rw [hLL]; simp
      have m7 : (⟨7, 24, .int .i64 (Q 2)⟩ : Lay) ∈ LL := by rw [hLL]; simp
      have m8 : (⟨8, 25, .int .i64 (Rm.addM (Rm.mulM (P 0) (Q 0)) (Rm.mulM (P 1) (Q 2)))⟩ : Lay) ∈ LL := by rw [hLL]; simp
      have m9 : (⟨9, 26, .pointer (some ⟨PB, 0, none⟩)⟩ : Lay) ∈ LL := by rw [hLL]; simp
      have m10 : (⟨10, 27, .int .i64 (P 0)⟩ : Lay) ∈ LL := by rw [hLL]; simp
      have m11 : (⟨11, 28, .pointer (some ⟨QB, 1, none⟩)⟩ : Lay) ∈ LL := by rw [hLL]; simp
      have m12 : (⟨12, 29, .int .i64 (Q 1)⟩ : Lay) ∈ LL := by rw [hLL]; simp
      have m13 : (⟨13, 30, .pointer (some ⟨PB, 1, none⟩)⟩ : Lay) ∈ LL := by rw [hLL]; simp
      have m14 : (⟨14, 31, .int .i64 (P 1)⟩ : Lay) ∈ LL := by rw [hLL]; simp
      have m15 : (⟨15, 32, .pointer (some ⟨QB, 3, none⟩)⟩ : Lay) ∈ LL := by rw [hLL]; simp
      have m16 : (⟨16, 33, .int .i64 (Q 3)⟩ : Lay) ∈ LL := by rw [hLL]; simp
      have m17 : (⟨17, 34, .int .i64 (Rm.addM (Rm.mulM (P 0) (Q 1)) (Rm.mulM (P 1) (Q 3)))⟩ : Lay) ∈ LL := by rw [hLL]; simp
      have m18 : (⟨18, 35, .pointer (some ⟨PB, 2, none⟩)⟩ : Lay) ∈ LL := by rw [hLL]; simp
      have m19 : (⟨19, 36, .int .i64 (P 2)⟩ : Lay) ∈ LL := by rw [hLL]; simp
      have m20 : (⟨20, 37, .pointer (some ⟨QB, 0, none⟩)⟩ : Lay) ∈ LL := by rw [hLL]; simp
      have m21 : (⟨21, 38, .int .i64 (Q 0)⟩ : Lay) ∈ LL := by rw [hLL]; simp
      have m22 : (⟨22, 39, .pointer (some ⟨PB, 3, none⟩)⟩ : Lay) ∈ LL := by rw [hLL]; simp
      have m23 : (⟨23, 40, .int .i64 (P 3)⟩ : Lay) ∈ LL := by rw [hLL]; simp
      have m24 : (⟨24, 41, .pointer (some ⟨QB, 2, none⟩)⟩ : Lay) ∈ LL := by rw [hLL]; simp
      have m25 : (⟨25, 42, .int .i64 (Q 2)⟩ : Lay) ∈ LL := by rw [hLL]; simp
      have m26 : (⟨26, 43, .int .i64 (Rm.addM (Rm.mulM (P 2) (Q 0)) (Rm.mulM (P 3) (Q 2)))⟩ : Lay) ∈ LL := by rw [hLL]; simp
      have m27 : (⟨27, 44, .pointer (some ⟨PB, 2, none⟩)⟩ : Lay) ∈ LL := by rw [hLL]; simp
      have m28 : (⟨28, 45, .int .i64 (P 2)⟩ : Lay) ∈ LL := by rw [hLL]; simp
      have m29 : (⟨29, 46, .pointer (some ⟨QB, 1, none⟩)⟩ : Lay) ∈ LL := by rw [hLL]; simp
      have m30 : (⟨30, 47, .int .i64 (Q 1)⟩ : Lay) ∈ LL := by rw [hLL]; simp
      have m31 : (⟨31, 48, .pointer (some ⟨PB, 3, none⟩)⟩ : Lay) ∈ LL := by rw [hLL]; simp
      have m32 : (⟨32, 49, .int .i64 (P 3)⟩ : Lay) ∈ LL := by rw [hLL]; simp
      have m33 : (⟨33, 50, .pointer (some ⟨QB, 3, none⟩)⟩ : Lay) ∈ LL := by rw [hLL]; simp
      have m34 : (⟨34, 51, .int .i64 (Q 3)⟩ : Lay) ∈ LL := by rw [hLL]; simp
      have m35 : (⟨35, 52, .int .i64 (Rm.addM (Rm.mulM (P 2) (Q 1)) (Rm.mulM (P 3) (Q 3)))⟩ : Lay) ∈ LL := by rw [hLL]; simp
      have m36 : (⟨36, 53, .agg #[.int .i64 (Rm.addM (Rm.mulM (P 0) (Q 0)) (Rm.mulM (P 1) (Q 2))), .int .i64 (Rm.addM (Rm.mulM (P 0) (Q 1)) (Rm.mulM (P 1) (Q 3))), .int .i64 (Rm.addM (Rm.mulM (P 2) (Q 0)) (Rm.mulM (P 3) (Q 2))), .int .i64 (Rm.addM (Rm.mulM (P 2) (Q 1)) (Rm.mulM (P 3) (Q 3)))]⟩ : Lay) ∈ LL := by rw [hLL]; simp
      have n3 : ∀ x ∈ LL, x.d ≠ 3 := by rw [hLL]; simp
      have n5 : ∀ x ∈ LL, x.d ≠ 5 := by rw [hLL]; simp
      replace hLL : Hid (LL = _) := hLL
      refine wp_region_inv (by kernel_rfl) (fun ls a W => a = fillA a0 ls LL ∧ W = cond (ls.getD 37 false) (X.setRow PB #[.int .i64 (Rm.addM (Rm.mulM (P 0) (Q 0)) (Rm.mulM (P 1) (Q 2))), .int .i64 (Rm.addM (Rm.mulM (P 0) (Q 1)) (Rm.mulM (P 1) (Q 3))), .int .i64 (Rm.addM (Rm.mulM (P 2) (Q 0)) (Rm.mulM (P 3) (Q 2))), .int .i64 (Rm.addM (Rm.mulM (P 2) (Q 1)) (Rm.mulM (P 3) (Q 3)))]) X ∧ (ls.getD 37 false = true → ∀ i, i < 37 → ls.getD i false = true)) (ahead_of (by decide +kernel)) ?_ ?_ ?_
      · exact ⟨fill_none.symm, by rw [getD_none]; exact HX.out.symm, fun h => absurd h (by rw [getD_none]; simp)⟩
      · intro ls a W i hs hI hi
        obtain ⟨rfl, hW, hl⟩ := hI
        obtain ⟨hun, oi, hoi, hdep⟩ := mem_ready.1 hi
        have hlt : i < 38 := by have := (Array.getElem?_eq_some_iff.1 hoi).1; simpa using this
        have hls : ls.size = 38 := by rw [hs]; rfl
        clear hi hs
        rcases (show i = 0 ∨ i = 1 ∨ i = 2 ∨ i = 3 ∨ i = 4 ∨ i = 5 ∨ i = 6 ∨ i = 7 ∨ i = 8 ∨ i = 9 ∨ i = 10 ∨ i = 11 ∨ i = 12 ∨ i = 13 ∨ i = 14 ∨ i = 15 ∨ i = 16 ∨ i = 17 ∨ i = 18 ∨ i = 19 ∨ i = 20 ∨ i = 21 ∨ i = 22 ∨ i = 23 ∨ i = 24 ∨ i = 25 ∨ i = 26 ∨ i = 27 ∨ i = 28 ∨ i = 29 ∨ i = 30 ∨ i = 31 ∨ i = 32 ∨ i = 33 ∨ i = 34 ∨ i = 35 ∨ i = 36 ∨ i = 37 by omega) with rfl | rfl | rfl | rfl | rfl | rfl | rfl | rfl | rfl | rfl | rfl | rfl | rfl | rfl | rfl | rfl | rfl | rfl | rfl | rfl | rfl | rfl | rfl | rfl | rfl | rfl | rfl | rfl | rfl | rfl | rfl | rfl | rfl | rfl | rfl | rfl | rfl | rfl
        · skip
          have hu := un_of (show 0 < ls.size by omega) hun
          simp at hoi
          subst hoi
          have hf : ls.getD 37 false = false := by
            cases hc : ls.getD 37 false with
            | false => rfl
            | true => exact absurd (hl hc 0 (by omega)) (by rw [hu]; simp)
          obtain rfl : W = X := by rw [hW, hf]; rfl
          have x3 := fill_otherT (listed := ls) n3 e3
          clear hdep hl hW
          generalize hA : fillA a0 ls LL = af at *
          refine wpOp_intro rfl rfl fun K' hK => ?_
          go_simp
          refine hK _ _ ⟨?_, ?_, ?_⟩
          · rw [← hA]; exact fill_put (by omega) hu hpw m0
          · rw [getD_set_ne false (by decide), hf]; rfl
          · intro h; rw [getD_set_ne false (by decide), hf] at h; cases h
        · skip
          have hu := un_of (show 1 < ls.size by omega) hun
          simp at hoi
          subst hoi
          have hf : ls.getD 37 false = false := by
            cases hc : ls.getD 37 false with
            | false => rfl
            | true => exact absurd (hl hc 1 (by omega)) (by rw [hu]; simp)
          obtain rfl : W = X := by rw [hW, hf]; rfl
          have d0 : ls.getD 0 false = true := hdep ⟨0, .data⟩ (by simp) (by decide)
          have x17 := fill_evalT (a0 := a0) (listed := ls) hpw m0 d0 (by rw [hsz]; decide)
          clear hdep hl hW
          have hcell := X1.out.c0
          generalize hA : fillA a0 ls LL = af at *
          refine wpOp_intro rfl rfl fun K' hK => ?_
          go_simp
          refine hK _ _ ⟨?_, ?_, ?_⟩
          · rw [← hA]; exact fill_put (by omega) hu hpw m1
          · rw [getD_set_ne false (by decide), hf]; rfl
          · intro h; rw [getD_set_ne false (by decide), hf] at h; cases h
        · skip
          have hu := un_of (show 2 < ls.size by omega) hun
          simp at hoi
          subst hoi
          have hf : ls.getD 37 false = false := by
            cases hc : ls.getD 37 false with
            | false => rfl
            | true => exact absurd (hl hc 2 (by omega)) (by rw [hu]; simp)
          obtain rfl : W = X := by rw [hW, hf]; rfl
          have x5 := fill_otherT (listed := ls) n5 e5
          clear hdep hl hW
          generalize hA : fillA a0 ls LL = af at *
          refine wpOp_intro rfl rfl fun K' hK => ?_
          go_simp
          refine hK _ _ ⟨?_, ?_, ?_⟩
          · rw [← hA]; exact fill_put (by omega) hu hpw m2
          · rw [getD_set_ne false (by decide), hf]; rfl
          · intro h; rw [getD_set_ne false (by decide), hf] at h; cases h
        · skip
          have hu := un_of (show 3 < ls.size by omega) hun
          simp at hoi
          subst hoi
          have hf : ls.getD 37 false = false := by
            cases hc : ls.getD 37 false with
            | false => rfl
            | true => exact absurd (hl hc 3 (by omega)) (by rw [hu]; simp)
          obtain rfl : W = X := by rw [hW, hf]; rfl
          have d2 : ls.getD 2 false = true := hdep ⟨2, .data⟩ (by simp) (by decide)
          have x19 := fill_evalT (a0 := a0) (listed := ls) hpw m2 d2 (by rw [hsz]; decide)
          clear hdep hl hW
          have hcell := X2.out.c0
          generalize hA : fillA a0 ls LL = af at *
          refine wpOp_intro rfl rfl fun K' hK => ?_
          go_simp
          refine hK _ _ ⟨?_, ?_, ?_⟩
          · rw [← hA]; exact fill_put (by omega) hu hpw m3
          · rw [getD_set_ne false (by decide), hf]; rfl
          · intro h; rw [getD_set_ne false (by decide), hf] at h; cases h
        · skip
          have hu := un_of (show 4 < ls.size by omega) hun
          simp at hoi
          subst hoi
          have hf : ls.getD 37 false = false := by
            cases hc : ls.getD 37 false with
            | false => rfl
            | true => exact absurd (hl hc 4 (by omega)) (by rw [hu]; simp)
          obtain rfl : W = X := by rw [hW, hf]; rfl
          have x3 := fill_otherT (listed := ls) n3 e3
          clear hdep hl hW
          generalize hA : fillA a0 ls LL = af at *
          refine wpOp_intro rfl rfl fun K' hK => ?_
          go_simp
          refine hK _ _ ⟨?_, ?_, ?_⟩
          · rw [← hA]; exact fill_put (by omega) hu hpw m4
          · rw [getD_set_ne false (by decide), hf]; rfl
          · intro h; rw [getD_set_ne false (by decide), hf] at h; cases h
        · skip
          have hu := un_of (show 5 < ls.size by omega) hun
          simp at hoi
          subst hoi
          have hf : ls.getD 37 false = false := by
            cases hc : ls.getD 37 false with
            | false => rfl
            | true => exact absurd (hl hc 5 (by omega)) (by rw [hu]; simp)
          obtain rfl : W = X := by rw [hW, hf]; rfl
          have d4 : ls.getD 4 false = true := hdep ⟨4, .data⟩ (by simp) (by decide)
          have x21 := fill_evalT (a0 := a0) (listed := ls) hpw m4 d4 (by rw [hsz]; decide)
          clear hdep hl hW
          have hcell := X1.out.c1
          generalize hA : fillA a0 ls LL = af at *
          refine wpOp_intro rfl rfl fun K' hK => ?_
          go_simp
          refine hK _ _ ⟨?_, ?_, ?_⟩
          · rw [← hA]; exact fill_put (by omega) hu hpw m5
          · rw [getD_set_ne false (by decide), hf]; rfl
          · intro h; rw [getD_set_ne false (by decide), hf] at h; cases h
        · skip
          have hu := un_of (show 6 < ls.size by omega) hun
          simp at hoi
          subst hoi
          have hf : ls.getD 37 false = false := by
            cases hc : ls.getD 37 false with
            | false => rfl
            | true => exact absurd (hl hc 6 (by omega)) (by rw [hu]; simp)
          obtain rfl : W = X := by rw [hW, hf]; rfl
          have x5 := fill_otherT (listed := ls) n5 e5
          clear hdep hl hW
          generalize hA : fillA a0 ls LL = af at *
          refine wpOp_intro rfl rfl fun K' hK => ?_
          go_simp
          refine hK _ _ ⟨?_, ?_, ?_⟩
          · rw [← hA]; exact fill_put (by omega) hu hpw m6
          · rw [getD_set_ne false (by decide), hf]; rfl
          · intro h; rw [getD_set_ne false (by decide), hf] at h; cases h
        · skip
          have hu := un_of (show 7 < ls.size by omega) hun
          simp at hoi
          subst hoi
          have hf : ls.getD 37 false = false := by
            cases hc : ls.getD 37 false with
            | false => rfl
            | true => exact absurd (hl hc 7 (by omega)) (by rw [hu]; simp)
          obtain rfl : W = X := by rw [hW, hf]; rfl
          have d6 : ls.getD 6 false = true := hdep ⟨6, .data⟩ (by simp) (by decide)
          have x23 := fill_evalT (a0 := a0) (listed := ls) hpw m6 d6 (by rw [hsz]; decide)
          clear hdep hl hW
          have hcell := X2.out.c2
          generalize hA : fillA a0 ls LL = af at *
          refine wpOp_intro rfl rfl fun K' hK => ?_
          go_simp
          refine hK _ _ ⟨?_, ?_, ?_⟩
          · rw [← hA]; exact fill_put (by omega) hu hpw m7
          · rw [getD_set_ne false (by decide), hf]; rfl
          · intro h; rw [getD_set_ne false (by decide), hf] at h; cases h
        · skip
          have hu := un_of (show 8 < ls.size by omega) hun
          simp at hoi
          subst hoi
          have hf : ls.getD 37 false = false := by
            cases hc : ls.getD 37 false with
            | false => rfl
            | true => exact absurd (hl hc 8 (by omega)) (by rw [hu]; simp)
          obtain rfl : W = X := by rw [hW, hf]; rfl
          have d1 : ls.getD 1 false = true := hdep ⟨1, .data⟩ (by simp) (by decide)
          have d3 : ls.getD 3 false = true := hdep ⟨3, .data⟩ (by simp) (by decide)
          have d5 : ls.getD 5 false = true := hdep ⟨5, .data⟩ (by simp) (by decide)
          have d7 : ls.getD 7 false = true := hdep ⟨7, .data⟩ (by simp) (by decide)
          have x18 := fill_evalT (a0 := a0) (listed := ls) hpw m1 d1 (by rw [hsz]; decide)
          have x20 := fill_evalT (a0 := a0) (listed := ls) hpw m3 d3 (by rw [hsz]; decide)
          have x22 := fill_evalT (a0 := a0) (listed := ls) hpw m5 d5 (by rw [hsz]; decide)
          have x24 := fill_evalT (a0 := a0) (listed := ls) hpw m7 d7 (by rw [hsz]; decide)
          clear hdep hl hW
          generalize hA : fillA a0 ls LL = af at *
          refine wpOp_intro rfl rfl fun K' hK => ?_
          go_simp
          go_at_call 60
          refine (sTwo_any _ _ _ _ _).mono ?_
          rintro e w2 ⟨rfl, rfl⟩
          refine hK _ _ ⟨?_, ?_, ?_⟩
          · rw [← hA]; exact fill_put (by omega) hu hpw m8
          · rw [getD_set_ne false (by decide), hf]; rfl
          · intro h; rw [getD_set_ne false (by decide), hf] at h; cases h
        · skip
          have hu := un_of (show 9 < ls.size by omega) hun
          simp at hoi
          subst hoi
          have hf : ls.getD 37 false = false := by
            cases hc : ls.getD 37 false with
            | false => rfl
            | true => exact absurd (hl hc 9 (by omega)) (by rw [hu]; simp)
          obtain rfl : W = X := by rw [hW, hf]; rfl
          have x3 := fill_otherT (listed := ls) n3 e3
          clear hdep hl hW
          generalize hA : fillA a0 ls LL = af at *
          refine wpOp_intro rfl rfl fun K' hK => ?_
          go_simp
          refine hK _ _ ⟨?_, ?_, ?_⟩
          · rw [← hA]; exact fill_put (by omega) hu hpw m9
          · rw [getD_set_ne false (by decide), hf]; rfl
          · intro h; rw [getD_set_ne false (by decide), hf] at h; cases h
        · skip
          have hu := un_of (show 10 < ls.size by omega) hun
          simp at hoi
          subst hoi
          have hf : ls.getD 37 false = false := by
            cases hc : ls.getD 37 false with
            | false => rfl
            | true => exact absurd (hl hc 10 (by omega)) (by rw [hu]; simp)
          obtain rfl : W = X := by rw [hW, hf]; rfl
          have d9 : ls.getD 9 false = true := hdep ⟨9, .data⟩ (by simp) (by decide)
          have x26 := fill_evalT (a0 := a0) (listed := ls) hpw m9 d9 (by rw [hsz]; decide)
          clear hdep hl hW
          have hcell := X1.out.c0
          generalize hA : fillA a0 ls LL = af at *
          refine wpOp_intro rfl rfl fun K' hK => ?_
          go_simp
          refine hK _ _ ⟨?_, ?_, ?_⟩
          · rw [← hA]; exact fill_put (by omega) hu hpw m10
          · rw [getD_set_ne false (by decide), hf]; rfl
          · intro h; rw [getD_set_ne false (by decide), hf] at h; cases h
        · skip
          have hu := un_of (show 11 < ls.size by omega) hun
          simp at hoi
          subst hoi
          have hf : ls.getD 37 false = false := by
            cases hc : ls.getD 37 false with
            | false => rfl
            | true => exact absurd (hl hc 11 (by omega)) (by rw [hu]; simp)
          obtain rfl : W = X := by rw [hW, hf]; rfl
          have x5 := fill_otherT (listed := ls) n5 e5
          clear hdep hl hW
          generalize hA : fillA a0 ls LL = af at *
          refine wpOp_intro rfl rfl fun K' hK => ?_
          go_simp
          refine hK _ _ ⟨?_, ?_, ?_⟩
          · rw [← hA]; exact fill_put (by omega) hu hpw m11
          · rw [getD_set_ne false (by decide), hf]; rfl
          · intro h; rw [getD_set_ne false (by decide), hf] at h; cases h
        · skip
          have hu := un_of (show 12 < ls.size by omega) hun
          simp at hoi
          subst hoi
          have hf : ls.getD 37 false = false := by
            cases hc : ls.getD 37 false with
            | false => rfl
            | true => exact absurd (hl hc 12 (by omega)) (by rw [hu]; simp)
          obtain rfl : W = X := by rw [hW, hf]; rfl
          have d11 : ls.getD 11 false = true := hdep ⟨11, .data⟩ (by simp) (by decide)
          have x28 := fill_evalT (a0 := a0) (listed := ls) hpw m11 d11 (by rw [hsz]; decide)
          clear hdep hl hW
          have hcell := X2.out.c1
          generalize hA : fillA a0 ls LL = af at *
          refine wpOp_intro rfl rfl fun K' hK => ?_
          go_simp
          refine hK _ _ ⟨?_, ?_, ?_⟩
          · rw [← hA]; exact fill_put (by omega) hu hpw m12
          · rw [getD_set_ne false (by decide), hf]; rfl
          · intro h; rw [getD_set_ne false (by decide), hf] at h; cases h
        · skip
          have hu := un_of (show 13 < ls.size by omega) hun
          simp at hoi
          subst hoi
          have hf : ls.getD 37 false = false := by
            cases hc : ls.getD 37 false with
            | false => rfl
            | true => exact absurd (hl hc 13 (by omega)) (by rw [hu]; simp)
          obtain rfl : W = X := by rw [hW, hf]; rfl
          have x3 := fill_otherT (listed := ls) n3 e3
          clear hdep hl hW
          generalize hA : fillA a0 ls LL = af at *
          refine wpOp_intro rfl rfl fun K' hK => ?_
          go_simp
          refine hK _ _ ⟨?_, ?_, ?_⟩
          · rw [← hA]; exact fill_put (by omega) hu hpw m13
          · rw [getD_set_ne false (by decide), hf]; rfl
          · intro h; rw [getD_set_ne false (by decide), hf] at h; cases h
        · skip
          have hu := un_of (show 14 < ls.size by omega) hun
          simp at hoi
          subst hoi
          have hf : ls.getD 37 false = false := by
            cases hc : ls.getD 37 false with
            | false => rfl
            | true => exact absurd (hl hc 14 (by omega)) (by rw [hu]; simp)
          obtain rfl : W = X := by rw [hW, hf]; rfl
          have d13 : ls.getD 13 false = true := hdep ⟨13, .data⟩ (by simp) (by decide)
          have x30 := fill_evalT (a0 := a0) (listed := ls) hpw m13 d13 (by rw [hsz]; decide)
          clear hdep hl hW
          have hcell := X1.out.c1
          generalize hA : fillA a0 ls LL = af at *
          refine wpOp_intro rfl rfl fun K' hK => ?_
          go_simp
          refine hK _ _ ⟨?_, ?_, ?_⟩
          · rw [← hA]; exact fill_put (by omega) hu hpw m14
          · rw [getD_set_ne false (by decide), hf]; rfl
          · intro h; rw [getD_set_ne false (by decide), hf] at h; cases h
        · skip
          have hu := un_of (show 15 < ls.size by omega) hun
          simp at hoi
          subst hoi
          have hf : ls.getD 37 false = false := by
            cases hc : ls.getD 37 false with
            | false => rfl
            | true => exact absurd (hl hc 15 (by omega)) (by rw [hu]; simp)
          obtain rfl : W = X := by rw [hW, hf]; rfl
          have x5 := fill_otherT (listed := ls) n5 e5
          clear hdep hl hW
          generalize hA : fillA a0 ls LL = af at *
          refine wpOp_intro rfl rfl fun K' hK => ?_
          go_simp
          refine hK _ _ ⟨?_, ?_, ?_⟩
          · rw [← hA]; exact fill_put (by omega) hu hpw m15
          · rw [getD_set_ne false (by decide), hf]; rfl
          · intro h; rw [getD_set_ne false (by decide), hf] at h; cases h
        · skip
          have hu := un_of (show 16 < ls.size by omega) hun
          simp at hoi
          subst hoi
          have hf : ls.getD 37 false = false := by
            cases hc : ls.getD 37 false with
            | false => rfl
            | true => exact absurd (hl hc 16 (by omega)) (by rw [hu]; simp)
          obtain rfl : W = X := by rw [hW, hf]; rfl
          have d15 : ls.getD 15 false = true := hdep ⟨15, .data⟩ (by simp) (by decide)
          have x32 := fill_evalT (a0 := a0) (listed := ls) hpw m15 d15 (by rw [hsz]; decide)
          clear hdep hl hW
          have hcell := X2.out.c3
          generalize hA : fillA a0 ls LL = af at *
          refine wpOp_intro rfl rfl fun K' hK => ?_
          go_simp
          refine hK _ _ ⟨?_, ?_, ?_⟩
          · rw [← hA]; exact fill_put (by omega) hu hpw m16
          · rw [getD_set_ne false (by decide), hf]; rfl
          · intro h; rw [getD_set_ne false (by decide), hf] at h; cases h
        · skip
          have hu := un_of (show 17 < ls.size by omega) hun
          simp at hoi
          subst hoi
          have hf : ls.getD 37 false = false := by
            cases hc : ls.getD 37 false with
            | false => rfl
            | true => exact absurd (hl hc 17 (by omega)) (by rw [hu]; simp)
          obtain rfl : W = X := by rw [hW, hf]; rfl
          have d10 : ls.getD 10 false = true := hdep ⟨10, .data⟩ (by simp) (by decide)
          have d12 : ls.getD 12 false = true := hdep ⟨12, .data⟩ (by simp) (by decide)
          have d14 : ls.getD 14 false = true := hdep ⟨14, .data⟩ (by simp) (by decide)
          have d16 : ls.getD 16 false = true := hdep ⟨16, .data⟩ (by simp) (by decide)
          have x27 := fill_evalT (a0 := a0) (listed := ls) hpw m10 d10 (by rw [hsz]; decide)
          have x29 := fill_evalT (a0 := a0) (listed := ls) hpw m12 d12 (by rw [hsz]; decide)
          have x31 := fill_evalT (a0 := a0) (listed := ls) hpw m14 d14 (by rw [hsz]; decide)
          have x33 := fill_evalT (a0 := a0) (listed := ls) hpw m16 d16 (by rw [hsz]; decide)
          clear hdep hl hW
          generalize hA : fillA a0 ls LL = af at *
          refine wpOp_intro rfl rfl fun K' hK => ?_
          go_simp
          go_at_call 60
          refine (sTwo_any _ _ _ _ _).mono ?_
          rintro e w2 ⟨rfl, rfl⟩
          refine hK _ _ ⟨?_, ?_, ?_⟩
          · rw [← hA]; exact fill_put (by omega) hu hpw m17
          · rw [getD_set_ne false (by decide), hf]; rfl
          · intro h; rw [getD_set_ne false (by decide), hf] at h; cases h
        · skip
          have hu := un_of (show 18 < ls.size by omega) hun
          simp at hoi
          subst hoi
          have hf : ls.getD 37 false = false := by
            cases hc : ls.getD 37 false with
            | false => rfl
            | true => exact absurd (hl hc 18 (by omega)) (by rw [hu]; simp)
          obtain rfl : W = X := by rw [hW, hf]; rfl
          have x3 := fill_otherT (listed := ls) n3 e3
          clear hdep hl hW
          generalize hA : fillA a0 ls LL = af at *
          refine wpOp_intro rfl rfl fun K' hK => ?_
          go_simp
          refine hK _ _ ⟨?_, ?_, ?_⟩
          · rw [← hA]; exact fill_put (by omega) hu hpw m18
          · rw [getD_set_ne false (by decide), hf]; rfl
          · intro h; rw [getD_set_ne false (by decide), hf] at h; cases h
        · skip
          have hu := un_of (show 19 < ls.size by omega) hun
          simp at hoi
          subst hoi
          have hf : ls.getD 37 false = false := by
            cases hc : ls.getD 37 false with
            | false => rfl
            | true => exact absurd (hl hc 19 (by omega)) (by rw [hu]; simp)
          obtain rfl : W = X := by rw [hW, hf]; rfl
          have d18 : ls.getD 18 false = true := hdep ⟨18, .data⟩ (by simp) (by decide)
          have x35 := fill_evalT (a0 := a0) (listed := ls) hpw m18 d18 (by rw [hsz]; decide)
          clear hdep hl hW
          have hcell := X1.out.c2
          generalize hA : fillA a0 ls LL = af at *
          refine wpOp_intro rfl rfl fun K' hK => ?_
          go_simp
          refine hK _ _ ⟨?_, ?_, ?_⟩
          · rw [← hA]; exact fill_put (by omega) hu hpw m19
          · rw [getD_set_ne false (by decide), hf]; rfl
          · intro h; rw [getD_set_ne false (by decide), hf] at h; cases h
        · skip
          have hu := un_of (show 20 < ls.size by omega) hun
          simp at hoi
          subst hoi
          have hf : ls.getD 37 false = false := by
            cases hc : ls.getD 37 false with
            | false => rfl
            | true => exact absurd (hl hc 20 (by omega)) (by rw [hu]; simp)
          obtain rfl : W = X := by rw [hW, hf]; rfl
          have x5 := fill_otherT (listed := ls) n5 e5
          clear hdep hl hW
          generalize hA : fillA a0 ls LL = af at *
          refine wpOp_intro rfl rfl fun K' hK => ?_
          go_simp
          refine hK _ _ ⟨?_, ?_, ?_⟩
          · rw [← hA]; exact fill_put (by omega) hu hpw m20
          · rw [getD_set_ne false (by decide), hf]; rfl
          · intro h; rw [getD_set_ne false (by decide), hf] at h; cases h
        · skip
          have hu := un_of (show 21 < ls.size by omega) hun
          simp at hoi
          subst hoi
          have hf : ls.getD 37 false = false := by
            cases hc : ls.getD 37 false with
            | false => rfl
            | true => exact absurd (hl hc 21 (by omega)) (by rw [hu]; simp)
          obtain rfl : W = X := by rw [hW, hf]; rfl
          have d20 : ls.getD 20 false = true := hdep ⟨20, .data⟩ (by simp) (by decide)
          have x37 := fill_evalT (a0 := a0) (listed := ls) hpw m20 d20 (by rw [hsz]; decide)
          clear hdep hl hW
          have hcell := X2.out.c0
          generalize hA : fillA a0 ls LL = af at *
          refine wpOp_intro rfl rfl fun K' hK => ?_
          go_simp
          refine hK _ _ ⟨?_, ?_, ?_⟩
          · rw [← hA]; exact fill_put (by omega) hu hpw m21
          · rw [getD_set_ne false (by decide), hf]; rfl
          · intro h; rw [getD_set_ne false (by decide), hf] at h; cases h
        · skip
          have hu := un_of (show 22 < ls.size by omega) hun
          simp at hoi
          subst hoi
          have hf : ls.getD 37 false = false := by
            cases hc : ls.getD 37 false with
            | false => rfl
            | true => exact absurd (hl hc 22 (by omega)) (by rw [hu]; simp)
          obtain rfl : W = X := by rw [hW, hf]; rfl
          have x3 := fill_otherT (listed := ls) n3 e3
          clear hdep hl hW
          generalize hA : fillA a0 ls LL = af at *
          refine wpOp_intro rfl rfl fun K' hK => ?_
          go_simp
          refine hK _ _ ⟨?_, ?_, ?_⟩
          · rw [← hA]; exact fill_put (by omega) hu hpw m22
          · rw [getD_set_ne false (by decide), hf]; rfl
          · intro h; rw [getD_set_ne false (by decide), hf] at h; cases h
        · skip
          have hu := un_of (show 23 < ls.size by omega) hun
          simp at hoi
          subst hoi
          have hf : ls.getD 37 false = false := by
            cases hc : ls.getD 37 false with
            | false => rfl
            | true => exact absurd (hl hc 23 (by omega)) (by rw [hu]; simp)
          obtain rfl : W = X := by rw [hW, hf]; rfl
          have d22 : ls.getD 22 false = true := hdep ⟨22, .data⟩ (by simp) (by decide)
          have x39 := fill_evalT (a0 := a0) (listed := ls) hpw m22 d22 (by rw [hsz]; decide)
          clear hdep hl hW
          have hcell := X1.out.c3
          generalize hA : fillA a0 ls LL = af at *
          refine wpOp_intro rfl rfl fun K' hK => ?_
          go_simp
          refine hK _ _ ⟨?_, ?_, ?_⟩
          · rw [← hA]; exact fill_put (by omega) hu hpw m23
          · rw [getD_set_ne false (by decide), hf]; rfl
          · intro h; rw [getD_set_ne false (by decide), hf] at h; cases h
        · skip
          have hu := un_of (show 24 < ls.size by omega) hun
          simp at hoi
          subst hoi
          have hf : ls.getD 37 false = false := by
            cases hc : ls.getD 37 false with
            | false => rfl
            | true => exact absurd (hl hc 24 (by omega)) (by rw [hu]; simp)
          obtain rfl : W = X := by rw [hW, hf]; rfl
          have x5 := fill_otherT (listed := ls) n5 e5
          clear hdep hl hW
          generalize hA : fillA a0 ls LL = af at *
          refine wpOp_intro rfl rfl fun K' hK => ?_
          go_simp
          refine hK _ _ ⟨?_, ?_, ?_⟩
          · rw [← hA]; exact fill_put (by omega) hu hpw m24
          · rw [getD_set_ne false (by decide), hf]; rfl
          · intro h; rw [getD_set_ne false (by decide), hf] at h; cases h
        · skip
          have hu := un_of (show 25 < ls.size by omega) hun
          simp at hoi
          subst hoi
          have hf : ls.getD 37 false = false := by
            cases hc : ls.getD 37 false with
            | false => rfl
            | true => exact absurd (hl hc 25 (by omega)) (by rw [hu]; simp)
          obtain rfl : W = X := by rw [hW, hf]; rfl
          have d24 : ls.getD 24 false = true := hdep ⟨24, .data⟩ (by simp) (by decide)
          have x41 := fill_evalT (a0 := a0) (listed := ls) hpw m24 d24 (by rw [hsz]; decide)
          clear hdep hl hW
          have hcell := X2.out.c2
          generalize hA : fillA a0 ls LL = af at *
          refine wpOp_intro rfl rfl fun K' hK => ?_
          go_simp
          refine hK _ _ ⟨?_, ?_, ?_⟩
          · rw [← hA]; exact fill_put (by omega) hu hpw m25
          · rw [getD_set_ne false (by decide), hf]; rfl
          · intro h; rw [getD_set_ne false (by decide), hf] at h; cases h
        · skip
          have hu := un_of (show 26 < ls.size by omega) hun
          simp at hoi
          subst hoi
          have hf : ls.getD 37 false = false := by
            cases hc : ls.getD 37 false with
            | false => rfl
            | true => exact absurd (hl hc 26 (by omega)) (by rw [hu]; simp)
          obtain rfl : W = X := by rw [hW, hf]; rfl
          have d19 : ls.getD 19 false = true := hdep ⟨19, .data⟩ (by simp) (by decide)
          have d21 : ls.getD 21 false = true := hdep ⟨21, .data⟩ (by simp) (by decide)
          have d23 : ls.getD 23 false = true := hdep ⟨23, .data⟩ (by simp) (by decide)
          have d25 : ls.getD 25 false = true := hdep ⟨25, .data⟩ (by simp) (by decide)
          have x36 := fill_evalT (a0 := a0) (listed := ls) hpw m19 d19 (by rw [hsz]; decide)
          have x38 := fill_evalT (a0 := a0) (listed := ls) hpw m21 d21 (by rw [hsz]; decide)
          have x40 := fill_evalT (a0 := a0) (listed := ls) hpw m23 d23 (by rw [hsz]; decide)
          have x42 := fill_evalT (a0 := a0) (listed := ls) hpw m25 d25 (by rw [hsz]; decide)
          clear hdep hl hW
          generalize hA : fillA a0 ls LL = af at *
          refine wpOp_intro rfl rfl fun K' hK => ?_
          go_simp
          go_at_call 60
          refine (sTwo_any _ _ _ _ _).mono ?_
          rintro e w2 ⟨rfl, rfl⟩
          refine hK _ _ ⟨?_, ?_, ?_⟩
          · rw [← hA]; exact fill_put (by omega) hu hpw m26
          · rw [getD_set_ne false (by decide), hf]; rfl
          · intro h; rw [getD_set_ne false (by decide), hf] at h; cases h
        · skip
          have hu := un_of (show 27 < ls.size by omega) hun
          simp at hoi
          subst hoi
          have hf : ls.getD 37 false = false := by
            cases hc : ls.getD 37 false with
            | false => rfl
            | true => exact absurd (hl hc 27 (by omega)) (by rw [hu]; simp)
          obtain rfl : W = X := by rw [hW, hf]; rfl
          have x3 := fill_otherT (listed := ls) n3 e3
          clear hdep hl hW
          generalize hA : fillA a0 ls LL = af at *
          refine wpOp_intro rfl rfl fun K' hK => ?_
          go_simp
          refine hK _ _ ⟨?_, ?_, ?_⟩
          · rw [← hA]; exact fill_put (by omega) hu hpw m27
          · rw [getD_set_ne false (by decide), hf]; rfl
          · intro h; rw [getD_set_ne false (by decide), hf] at h; cases h
        · skip
          have hu := un_of (show 28 < ls.size by omega) hun
          simp at hoi
          subst hoi
          have hf : ls.getD 37 false = false := by
            cases hc : ls.getD 37 false with
            | false => rfl
            | true => exact absurd (hl hc 28 (by omega)) (by rw [hu]; simp)
          obtain rfl : W = X := by rw [hW, hf]; rfl
          have d27 : ls.getD 27 false = true := hdep ⟨27, .data⟩ (by simp) (by decide)
          have x44 := fill_evalT (a0 := a0) (listed := ls) hpw m27 d27 (by rw [hsz]; decide)
          clear hdep hl hW
          have hcell := X1.out.c2
          generalize hA : fillA a0 ls LL = af at *
          refine wpOp_intro rfl rfl fun K' hK => ?_
          go_simp
          refine hK _ _ ⟨?_, ?_, ?_⟩
          · rw [← hA]; exact fill_put (by omega) hu hpw m28
          · rw [getD_set_ne false (by decide), hf]; rfl
          · intro h; rw [getD_set_ne false (by decide), hf] at h; cases h
        · skip
          have hu := un_of (show 29 < ls.size by omega) hun
          simp at hoi
          subst hoi
          have hf : ls.getD 37 false = false := by
            cases hc : ls.getD 37 false with
            | false => rfl
            | true => exact absurd (hl hc 29 (by omega)) (by rw [hu]; simp)
          obtain rfl : W = X := by rw [hW, hf]; rfl
          have x5 := fill_otherT (listed := ls) n5 e5
          clear hdep hl hW
          generalize hA : fillA a0 ls LL = af at *
          refine wpOp_intro rfl rfl fun K' hK => ?_
          go_simp
          refine hK _ _ ⟨?_, ?_, ?_⟩
          · rw [← hA]; exact fill_put (by omega) hu hpw m29
          · rw [getD_set_ne false (by decide), hf]; rfl
          · intro h; rw [getD_set_ne false (by decide), hf] at h; cases h
        · skip
          have hu := un_of (show 30 < ls.size by omega) hun
          simp at hoi
          subst hoi
          have hf : ls.getD 37 false = false := by
            cases hc : ls.getD 37 false with
            | false => rfl
            | true => exact absurd (hl hc 30 (by omega)) (by rw [hu]; simp)
          obtain rfl : W = X := by rw [hW, hf]; rfl
          have d29 : ls.getD 29 false = true := hdep ⟨29, .data⟩ (by simp) (by decide)
          have x46 := fill_evalT (a0 := a0) (listed := ls) hpw m29 d29 (by rw [hsz]; decide)
          clear hdep hl hW
          have hcell := X2.out.c1
          generalize hA : fillA a0 ls LL = af at *
          refine wpOp_intro rfl rfl fun K' hK => ?_
          go_simp
          refine hK _ _ ⟨?_, ?_, ?_⟩
          · rw [← hA]; exact fill_put (by omega) hu hpw m30
          · rw [getD_set_ne false (by decide), hf]; rfl
          · intro h; rw [getD_set_ne false (by decide), hf] at h; cases h
        · skip
          have hu := un_of (show 31 < ls.size by omega) hun
          simp at hoi
          subst hoi
          have hf : ls.getD 37 false = false := by
            cases hc : ls.getD 37 false with
            | false => rfl
            | true => exact absurd (hl hc 31 (by omega)) (by rw [hu]; simp)
          obtain rfl : W = X := by rw [hW, hf]; rfl
          have x3 := fill_otherT (listed := ls) n3 e3
          clear hdep hl hW
          generalize hA : fillA a0 ls LL = af at *
          refine wpOp_intro rfl rfl fun K' hK => ?_
          go_simp
          refine hK _ _ ⟨?_, ?_, ?_⟩
          · rw [← hA]; exact fill_put (by omega) hu hpw m31
          · rw [getD_set_ne false (by decide), hf]; rfl
          · intro h; rw [getD_set_ne false (by decide), hf] at h; cases h
        · skip
          have hu := un_of (show 32 < ls.size by omega) hun
          simp at hoi
          subst hoi
          have hf : ls.getD 37 false = false := by
            cases hc : ls.getD 37 false with
            | false => rfl
            | true => exact absurd (hl hc 32 (by omega)) (by rw [hu]; simp)
          obtain rfl : W = X := by rw [hW, hf]; rfl
          have d31 : ls.getD 31 false = true := hdep ⟨31, .data⟩ (by simp) (by decide)
          have x48 := fill_evalT (a0 := a0) (listed := ls) hpw m31 d31 (by rw [hsz]; decide)
          clear hdep hl hW
          have hcell := X1.out.c3
          generalize hA : fillA a0 ls LL = af at *
          refine wpOp_intro rfl rfl fun K' hK => ?_
          go_simp
          refine hK _ _ ⟨?_, ?_, ?_⟩
          · rw [← hA]; exact fill_put (by omega) hu hpw m32
          · rw [getD_set_ne false (by decide), hf]; rfl
          · intro h; rw [getD_set_ne false (by decide), hf] at h; cases h
        · skip
          have hu := un_of (show 33 < ls.size by omega) hun
          simp at hoi
          subst hoi
          have hf : ls.getD 37 false = false := by
            cases hc : ls.getD 37 false with
            | false => rfl
            | true => exact absurd (hl hc 33 (by omega)) (by rw [hu]; simp)
          obtain rfl : W = X := by rw [hW, hf]; rfl
          have x5 := fill_otherT (listed := ls) n5 e5
          clear hdep hl hW
          generalize hA : fillA a0 ls LL = af at *
          refine wpOp_intro rfl rfl fun K' hK => ?_
          go_simp
          refine hK _ _ ⟨?_, ?_, ?_⟩
          · rw [← hA]; exact fill_put (by omega) hu hpw m33
          · rw [getD_set_ne false (by decide), hf]; rfl
          · intro h; rw [getD_set_ne false (by decide), hf] at h; cases h
        · skip
          have hu := un_of (show 34 < ls.size by omega) hun
          simp at hoi
          subst hoi
          have hf : ls.getD 37 false = false := by
            cases hc : ls.getD 37 false with
            | false => rfl
            | true => exact absurd (hl hc 34 (by omega)) (by rw [hu]; simp)
          obtain rfl : W = X := by rw [hW, hf]; rfl
          have d33 : ls.getD 33 false = true := hdep ⟨33, .data⟩ (by simp) (by decide)
          have x50 := fill_evalT (a0 := a0) (listed := ls) hpw m33 d33 (by rw [hsz]; decide)
          clear hdep hl hW
          have hcell := X2.out.c3
          generalize hA : fillA a0 ls LL = af at *
          refine wpOp_intro rfl rfl fun K' hK => ?_
          go_simp
          refine hK _ _ ⟨?_, ?_, ?_⟩
          · rw [← hA]; exact fill_put (by omega) hu hpw m34
          · rw [getD_set_ne false (by decide), hf]; rfl
          · intro h; rw [getD_set_ne false (by decide), hf] at h; cases h
        · skip
          have hu := un_of (show 35 < ls.size by omega) hun
          simp at hoi
          subst hoi
          have hf : ls.getD 37 false = false := by
            cases hc : ls.getD 37 false with
            | false => rfl
            | true => exact absurd (hl hc 35 (by omega)) (by rw [hu]; simp)
          obtain rfl : W = X := by rw [hW, hf]; rfl
          have d28 : ls.getD 28 false = true := hdep ⟨28, .data⟩ (by simp) (by decide)
          have d30 : ls.getD 30 false = true := hdep ⟨30, .data⟩ (by simp) (by decide)
          have d32 : ls.getD 32 false = true := hdep ⟨32, .data⟩ (by simp) (by decide)
          have d34 : ls.getD 34 false = true := hdep ⟨34, .data⟩ (by simp) (by decide)
          have x45 := fill_evalT (a0 := a0) (listed := ls) hpw m28 d28 (by rw [hsz]; decide)
          have x47 := fill_evalT (a0 := a0) (listed := ls) hpw m30 d30 (by rw [hsz]; decide)
          have x49 := fill_evalT (a0 := a0) (listed := ls) hpw m32 d32 (by rw [hsz]; decide)
          have x51 := fill_evalT (a0 := a0) (listed := ls) hpw m34 d34 (by rw [hsz]; decide)
          clear hdep hl hW
          generalize hA : fillA a0 ls LL = af at *
          refine wpOp_intro rfl rfl fun K' hK => ?_
          go_simp
          go_at_call 60
          refine (sTwo_any _ _ _ _ _).mono ?_
          rintro e w2 ⟨rfl, rfl⟩
          refine hK _ _ ⟨?_, ?_, ?_⟩
          · rw [← hA]; exact fill_put (by omega) hu hpw m35
          · rw [getD_set_ne false (by decide), hf]; rfl
          · intro h; rw [getD_set_ne false (by decide), hf] at h; cases h
        · skip
          have hu := un_of (show 36 < ls.size by omega) hun
          simp at hoi
          subst hoi
          have hf : ls.getD 37 false = false := by
            cases hc : ls.getD 37 false with
            | false => rfl
            | true => exact absurd (hl hc 36 (by omega)) (by rw [hu]; simp)
          obtain rfl : W = X := by rw [hW, hf]; rfl
          have d8 : ls.getD 8 false = true := hdep ⟨8, .data⟩ (by simp) (by decide)
          have d17 : ls.getD 17 false = true := hdep ⟨17, .data⟩ (by simp) (by decide)
          have d26 : ls.getD 26 false = true := hdep ⟨26, .data⟩ (by simp) (by decide)
          have d35 : ls.getD 35 false = true := hdep ⟨35, .data⟩ (by simp) (by decide)
          have x25 := fill_evalT (a0 := a0) (listed := ls) hpw m8 d8 (by rw [hsz]; decide)
          have x34 := fill_evalT (a0 := a0) (listed := ls) hpw m17 d17 (by rw [hsz]; decide)
          have x43 := fill_evalT (a0 := a0) (listed := ls) hpw m26 d26 (by rw [hsz]; decide)
          have x52 := fill_evalT (a0 := a0) (listed := ls) hpw m35 d35 (by rw [hsz]; decide)
          clear hdep hl hW
          generalize hA : fillA a0 ls LL = af at *
          refine wpOp_intro rfl rfl fun K' hK => ?_
          go_simp
          refine hK _ _ ⟨?_, ?_, ?_⟩
          · rw [← hA]; exact fill_put (by omega) hu hpw m36
          · rw [getD_set_ne false (by decide), hf]; rfl
          · intro h; rw [getD_set_ne false (by decide), hf] at h; cases h
        · skip
          have hu := un_of (show 37 < ls.size by omega) hun
          simp at hoi
          subst hoi
          have hall : ∀ j, j < 37 → ls.getD j false = true := fun j hj => by
            rcases (show j = 0 ∨ j = 1 ∨ j = 2 ∨ j = 3 ∨ j = 4 ∨ j = 5 ∨ j = 6 ∨ j = 7 ∨ j = 8 ∨ j = 9 ∨ j = 10 ∨ j = 11 ∨ j = 12 ∨ j = 13 ∨ j = 14 ∨ j = 15 ∨ j = 16 ∨ j = 17 ∨ j = 18 ∨ j = 19 ∨ j = 20 ∨ j = 21 ∨ j = 22 ∨ j = 23 ∨ j = 24 ∨ j = 25 ∨ j = 26 ∨ j = 27 ∨ j = 28 ∨ j = 29 ∨ j = 30 ∨ j = 31 ∨ j = 32 ∨ j = 33 ∨ j = 34 ∨ j = 35 ∨ j = 36 by omega) with rfl | rfl | rfl | rfl | rfl | rfl | rfl | rfl | rfl | rfl | rfl | rfl | rfl | rfl | rfl | rfl | rfl | rfl | rfl | rfl | rfl | rfl | rfl | rfl | rfl | rfl | rfl | rfl | rfl | rfl | rfl | rfl | rfl | rfl | rfl | rfl | rfl
            all_goals first | exact hdep ⟨_, .phase⟩ (by simp) (by decide) | exact hdep ⟨_, .data⟩ (by simp) (by decide)
          obtain rfl : W = X := by rw [hW, hu]; rfl
          have x3 := fill_otherT (listed := ls) n3 e3
          have x53 := fill_evalT (a0 := a0) (listed := ls) hpw m36 (hall 36 (by omega)) (by rw [hsz]; decide)
          clear hdep hl hW
          refine wpOp_intro rfl rfl fun K' hK => ?_
          refine wp_store_row 34 (.tmp 3) (.tmp 53) rfl PB #[.int .i64 (Rm.addM (Rm.mulM (P 0) (Q 0)) (Rm.mulM (P 1) (Q 2))), .int .i64 (Rm.addM (Rm.mulM (P 0) (Q 1)) (Rm.mulM (P 1) (Q 3))), .int .i64 (Rm.addM (Rm.mulM (P 2) (Q 0)) (Rm.mulM (P 3) (Q 2))), .int .i64 (Rm.addM (Rm.mulM (P 2) (Q 1)) (Rm.mulM (P 3) (Q 3)))] (by simpa [Act.eval] using x3) (by simpa [Act.eval] using x53) 34 #[.int .i64 (P 0), .int .i64 (P 1), .int .i64 (P 2), .int .i64 (P 3)] X1.out (by kernel_rfl) rfl (by simp [Value.oneCell']) ?_
          refine hK _ _ ⟨?_, ?_, ?_⟩
          · show fillA a0 ls LL = fillA a0 (ls.setIfInBounds 37 true) LL
            rw [hLL.out]; simp only [fillA]; simp only [getD_set_ne false (show (37 : Nat) ≠ 0 by decide), getD_set_ne false (show (37 : Nat) ≠ 1 by decide), getD_set_ne false (show (37 : Nat) ≠ 2 by decide), getD_set_ne false (show (37 : Nat) ≠ 3 by decide), getD_set_ne false (show (37 : Nat) ≠ 4 by decide), getD_set_ne false (show (37 : Nat) ≠ 5 by decide), getD_set_ne false (show (37 : Nat) ≠ 6 by decide), getD_set_ne false (show (37 : Nat) ≠ 7 by decide), getD_set_ne false (show (37 : Nat) ≠ 8 by decide), getD_set_ne false (show (37 : Nat) ≠ 9 by decide), getD_set_ne false (show (37 : Nat) ≠ 10 by decide), getD_set_ne false (show (37 : Nat) ≠ 11 by decide), getD_set_ne false (show (37 : Nat) ≠ 12 by decide), getD_set_ne false (show (37 : Nat) ≠ 13 by decide), getD_set_ne false (show (37 : Nat) ≠ 14 by decide), getD_set_ne false (show (37 : Nat) ≠ 15 by decide), getD_set_ne false (show (37 : Nat) ≠ 16 by decide), getD_set_ne false (show (37 : Nat) ≠ 17 by decide), getD_set_ne false (show (37 : Nat) ≠ 18 by decide), getD_set_ne false (show (37 : Nat) ≠ 19 by decide), getD_set_ne false (show (37 : Nat) ≠ 20 by decide), getD_set_ne false (show (37 : Nat) ≠ 21 by decide), getD_set_ne false (show (37 : Nat) ≠ 22 by decide), getD_set_ne false (show (37 : Nat) ≠ 23 by decide), getD_set_ne false (show (37 : Nat) ≠ 24 by decide), getD_set_ne false (show (37 : Nat) ≠ 25 by decide), getD_set_ne false (show (37 : Nat) ≠ 26 by decide), getD_set_ne false (show (37 : Nat) ≠ 27 by decide), getD_set_ne false (show (37 : Nat) ≠ 28 by decide), getD_set_ne false (show (37 : Nat) ≠ 29 by decide), getD_set_ne false (show (37 : Nat) ≠ 30 by decide), getD_set_ne false (show (37 : Nat) ≠ 31 by decide), getD_set_ne false (show (37 : Nat) ≠ 32 by decide), getD_set_ne false (show (37 : Nat) ≠ 33 by decide), getD_set_ne false (show (37 : Nat) ≠ 34 by decide), getD_set_ne false (show (37 : Nat) ≠ 35 by decide), getD_set_ne false (show (37 : Nat) ≠ 36 by decide)]
          · rw [set_self (by omega)]; rfl
          · intro h j hj; rw [getD_set_ne false (by omega)]; exact hall j hj
      · intro ls a W hI hall
        obtain ⟨rfl, hW, hl⟩ := hI
        have l0 : ls.getD 0 false = true := hall 0 (by decide)
        have l1 : ls.getD 1 false = true := hall 1 (by decide)
        have l2 : ls.getD 2 false = true := hall 2 (by decide)
        have l3 : ls.getD 3 false = true := hall 3 (by decide)
        have l4 : ls.getD 4 false = true := hall 4 (by decide)
        have l5 : ls.getD 5 false = true := hall 5 (by decide)
        have l6 : ls.getD 6 false = true := hall 6 (by decide)
        have l7 : ls.getD 7 false = true := hall 7 (by decide)
        have l8 : ls.getD 8 false = true := hall 8 (by decide)
        have l9 : ls.getD 9 false = true := hall 9 (by decide)
        have l10 : ls.getD 10 false = true := hall 10 (by decide)
        have l11 : ls.getD 11 false = true := hall 11 (by decide)
        have l12 : ls.getD 12 false = true := hall 12 (by decide)
        have l13 : ls.getD 13 false = true := hall 13 (by decide)
        have l14 : ls.getD 14 false = true := hall 14 (by decide)
        have l15 : ls.getD 15 false = true := hall 15 (by decide)
        have l16 : ls.getD 16 false = true := hall 16 (by decide)
        have l17 : ls.getD 17 false = true := hall 17 (by decide)
        have l18 : ls.getD 18 false = true := hall 18 (by decide)
        have l19 : ls.getD 19 false = true := hall 19 (by decide)
        have l20 : ls.getD 20 false = true := hall 20 (by decide)
        have l21 : ls.getD 21 false = true := hall 21 (by decide)
        have l22 : ls.getD 22 false = true := hall 22 (by decide)
        have l23 : ls.getD 23 false = true := hall 23 (by decide)
        have l24 : ls.getD 24 false = true := hall 24 (by decide)
        have l25 : ls.getD 25 false = true := hall 25 (by decide)
        have l26 : ls.getD 26 false = true := hall 26 (by decide)
        have l27 : ls.getD 27 false = true := hall 27 (by decide)
        have l28 : ls.getD 28 false = true := hall 28 (by decide)
        have l29 : ls.getD 29 false = true := hall 29 (by decide)
        have l30 : ls.getD 30 false = true := hall 30 (by decide)
        have l31 : ls.getD 31 false = true := hall 31 (by decide)
        have l32 : ls.getD 32 false = true := hall 32 (by decide)
        have l33 : ls.getD 33 false = true := hall 33 (by decide)
        have l34 : ls.getD 34 false = true := hall 34 (by decide)
        have l35 : ls.getD 35 false = true := hall 35 (by decide)
        have l36 : ls.getD 36 false = true := hall 36 (by decide)
        have l37 : ls.getD 37 false = true := hall 37 (by decide)
        obtain rfl : W = X.setRow PB #[.int .i64 (Rm.addM (Rm.mulM (P 0) (Q 0)) (Rm.mulM (P 1) (Q 2))), .int .i64 (Rm.addM (Rm.mulM (P 0) (Q 1)) (Rm.mulM (P 1) (Q 3))), .int .i64 (Rm.addM (Rm.mulM (P 2) (Q 0)) (Rm.mulM (P 3) (Q 2))), .int .i64 (Rm.addM (Rm.mulM (P 2) (Q 1)) (Rm.mulM (P 3) (Q 3)))] := by rw [hW, l37]; rfl
        have SF : Hid (Sk w (X.setRow PB #[.int .i64 (Rm.addM (Rm.mulM (P 0) (Q 0)) (Rm.mulM (P 1) (Q 2))), .int .i64 (Rm.addM (Rm.mulM (P 0) (Q 1)) (Rm.mulM (P 1) (Q 3))), .int .i64 (Rm.addM (Rm.mulM (P 2) (Q 0)) (Rm.mulM (P 3) (Q 2))), .int .i64 (Rm.addM (Rm.mulM (P 2) (Q 1)) (Rm.mulM (P 3) (Q 3)))]) (Wv.mulP P Q)) := by
          have hx1 := X1.out
          rw [HPB.out] at hx1 ⊢
          refine ⟨setRow_heap _ _ _ _ _ _ hx1, (setRow_other _ _ _ _ (by omega)).trans (by rw [HX.out]; exact SY.out.2.1), ?_⟩
          have hb : Below w.heap.size w X := by rw [HX.out]; exact SY.out.2.2.drew
          exact hb.trans ⟨rfl, rfl, rfl, by simp, fun k hk => setRow_other _ _ _ _ (by omega)⟩
        obtain ⟨V, hV⟩ : ∃ V, V = X.setRow PB #[.int .i64 (Rm.addM (Rm.mulM (P 0) (Q 0)) (Rm.mulM (P 1) (Q 2))), .int .i64 (Rm.addM (Rm.mulM (P 0) (Q 1)) (Rm.mulM (P 1) (Q 3))), .int .i64 (Rm.addM (Rm.mulM (P 2) (Q 0)) (Rm.mulM (P 3) (Q 2))), .int .i64 (Rm.addM (Rm.mulM (P 2) (Q 1)) (Rm.mulM (P 3) (Q 3)))] := ⟨_, rfl⟩
        rw [← hV] at SF ⊢
        clear hall hW hl hV
        rw [hLL.out]
        simp only [fillA, l0, l1, l2, l3, l4, l5, l6, l7, l8, l9, l10, l11, l12, l13, l14, l15, l16, l17, l18, l19, l20, l21, l22, l23, l24, l25, l26, l27, l28, l29, l30, l31, l32, l33, l34, l35, l36, if_true]
        clear l0 l1 l2 l3 l4 l5 l6 l7 l8 l9 l10 l11 l12 l13 l14 l15 l16 l17 l18 l19 l20 l21 l22 l23 l24 l25 l26 l27 l28 l29 l30 l31 l32 l33 l34 l35 l36 l37
        rw [ha0.out]
        simp only [Act.put, List.setIfInBounds_toArray, List.set_cons_succ, List.set_cons_zero]
        clear e3 e5 hsz hpw m0 m1 m2 m3 m4 m5 m6 m7 m8 m9 m10 m11 m12 m13 m14 m15 m16 m17 m18 m19 m20 m21 m22 m23 m24 m25 m26 m27 m28 m29 m30 m31 m32 m33 m34 m35 m36 n3 n5 hLL ha0 HX X1 X2 SY QY
        go_wp2
        go_roundw
        case rel =>
          have hPB := HPB.out
          clear HPB
          subst hPB
          (repeat apply Exists.intro)
          refine ⟨⟨k + 1, ?m1, ?m2, ?m3⟩, ?m4⟩
          case m4 => rfl
          case m1 => omega
          case m2 => first | rfl | (simp; done)
          case m3 => rw [HPQ.out]; exact SF
        case measure => simp [intOf]; omega
    · obtain rfl : k = n := by omega
      obtain ⟨P, hP⟩ : ∃ P, P = Wv.stk G k := ⟨_, rfl⟩
      have HPP : Hid (Wv.stk G k = P) := hP.symm
      rw [← hP] at HS
      have p0 := HS.out.1.c0
      have r0 := HS.out.2.1.c0
      have q0 := HS.out.2.1.fz 0
      have p1 := HS.out.1.c1
      have r1 := HS.out.2.1.c1
      have q1 := HS.out.2.1.fz 1
      have p2 := HS.out.1.c2
      have r2 := HS.out.2.1.c2
      have q2 := HS.out.2.1.fz 2
      have p3 := HS.out.1.c3
      have r3 := HS.out.2.1.c3
      have q3 := HS.out.2.1.fz 3
      clear hc later hP
      go_wp2
      refine bodyPost_ret (v := Mv P) (by simp [results, Try.results28, go_sem, r0, r1, r2, r3, Mv]) rfl ⟨by rw [HPP.out], ?_⟩
      exact (((HS.out.2.2.setCell (Nat.le_refl _) _).setCell (Nat.le_refl _) _).setCell (Nat.le_refl _) _).setCell (Nat.le_refl _) _
end Go.Proofs.Ytigkfngbiicfaaa
