/- A rectangle put into a row of its own at a place: slices.Insert: a contract. -/
import Derived.Test.YtclnmikneomccaaIn
namespace Go.Proofs.Ytclnmikneomccaa
open Go.RowKit Go.Maps Go.Lib
set_option linter.unusedVariables false
set_option linter.unusedSimpArgs false
section
variable {P : Program} {Q : Exit → Act → World → Prop} {l : List Oper} {st : Oper}
/-- A drawn region whose last operation waits for all others, be it by way of others. -/
theorem wp_region_lastK {L : List Oper} {id : Nat} {a : Act} {w : World} (B : Nat) (hm : P.follows .mixedOrders = true) (hst : L.getLast? = some st) (hl : L.dropLast = l) (hB : Region.lexB .any l.toArray = true) (hk : LastC l st)
    (h : Nonempty (Kept B w) → wpQuiet P l.toArray (fun w' => ∃ x : Kept B w, w' = x.w) (fun a' => ∀ w', (∃ x : Kept B w, w' = x.w) → wpList P L.toArray Q [st] a' w') l a) : (Code.region id L.toArray true).wp P Q a w := by
  have e : L = l ++ [st] := by
    obtain ⟨ys, rfl⟩ := List.getLast?_eq_some_iff.1 hst
    rw [List.dropLast_concat] at hl
    rw [hl]
  subst e
  simp only [Region.lexB, Bool.and_eq_true] at hB
  have h' := h ⟨⟨w, Below.refl B w⟩⟩
  have hq := wpAnyQ_lex (C := fun w' => ∃ x : Kept B w, w' = x.w) (md := .any) hB.1 l 0 (Array.replicate l.length false) a (by simp) (by simpa using hB.2) h'
  have hd : ∃ x : Kept B w, w.drew = x.w := ⟨⟨w.drew, (Below.refl B w).drew⟩, rfl⟩
  have hw := wpAny_of_quiet (Q' := Exit.then (fun a' w' => wpList P (l ++ [st]).toArray Q [st] a' w') Q) (fun a' w' hw' hh => hh w' hw') l.length (Array.replicate l.length false) a w.drew hd hq
  refine wp_region_any hm ?_
  have hI : Inv l (Array.replicate l.length false) := by
    intro i o _ hj
    simp [Array.getD] at hj
  have hz := wpAny_lastC hk (F := fun a' w' => wpList P (l ++ [st]).toArray Q [st] a' w') (fun a' w' hh => ?_) l.length (Array.replicate l.length false) a w.drew (by simp) hI hw
  · have e : (Array.replicate (l ++ [st]).toArray.size false) = (Array.replicate l.length false).push false := by simp [Array.replicate_succ]
    rw [e]
    simpa using hz
  · unfold wpOp
    rw [at_last]
    simpa [wpList] using hh
end
theorem sz68 : (Try.prog.info? 68).map (·.size) = some 5 := by kernel_rfl
theorem hz68 : ∀ w, (Go.sizeOf 68).run Try.prog w = .ok 5 w := fun w => by
  obtain ⟨i, h1, h2, h3, h4⟩ := infoV_parts R.infoE
  simp [sizeOf, typeInfo, h1, h3]
theorem hov68 {w : World} {vb g : Nat} {r : R.G} {L : List Value} (hb : Blk w vb #[.int .i64 r.ly, .int .i64 r.xa, .int .i64 r.ya, .int .i64 r.xb, .int .i64 r.yb] 68) (hg : w.heap[g]? = some (.cells L.toArray 68 (0, 0))) (hL : L.length ≠ 0) (hne : vb ≠ g) (off lb cb : Nat) :
    (callFunc 97 #[.slice (some ⟨vb, 0, none⟩) 1 1, .slice (some ⟨g, off, none⟩) lb cb]).run Try.prog w = .ok (.value (.bool false)) w := by
  rw [run_callFunc_extern Try.func97 (by kernel_rfl) (by kernel_rfl) (by kernel_rfl) (e := Extern.SlicesOverlaps.overlaps #[25, 25] #[4]) (by kernel_rfl),
      Lib.run_overlaps_apart w 25 4 68 Try.underlying25 5 hz68 ⟨vb, 0, none⟩ ⟨g, off, none⟩ 1 1 lb cb hne 68 68 5 L.length (by simp [World.shape?, show w.heap[vb]? = _ from hb]) (by simp [World.shape?, hg]) hL (hb.frozen 0) (hb.frozen 5)]
  rfl
theorem ins_list {L F xs : List Value} {n i : Nat} (hF : F.length = n * 5) (hx : xs.length = 5) (hi : i < n) (hL : (n + 1) * 5 ≤ L.length) (ht : L.take (n * 5) = F) :
    (splice (splice L ((i + 1) * 5) (F.drop (i * 5))) (i * 5) xs).take ((n + 1) * 5) = F.take (i * 5) ++ (xs ++ F.drop (i * 5)) := by
  have hD : (F.drop (i * 5)).length = n * 5 - i * 5 := by rw [List.length_drop, hF]
  have h1 : (L.take ((i + 1) * 5)).length = (i + 1) * 5 := by rw [List.length_take]; omega
  have e1 : (splice L ((i + 1) * 5) (F.drop (i * 5))).take (i * 5) = F.take (i * 5) := by
    unfold splice
    rw [List.take_append_of_le_length (by omega), List.take_take, ← ht, List.take_take]
    congr 1
    omega
  have e2 : (splice L ((i + 1) * 5) (F.drop (i * 5))).drop (i * 5 + xs.length) = F.drop (i * 5) ++ L.drop ((i + 1) * 5 + (F.drop (i * 5)).length) := by
    unfold splice
    rw [show i * 5 + xs.length = (i + 1) * 5 by omega]
    exact List.drop_left' h1
  rw [show splice (splice L ((i + 1) * 5) (F.drop (i * 5))) (i * 5) xs = (splice L ((i + 1) * 5) (F.drop (i * 5))).take (i * 5) ++ (xs ++ (splice L ((i + 1) * 5) (F.drop (i * 5))).drop (i * 5 + xs.length)) from rfl, e1, e2]
  rw [← List.append_assoc xs, ← List.append_assoc]
  refine (List.take_left' ?_)
  rw [List.length_append, List.length_append, List.length_take, hD, hF, hx]
  omega
theorem splice_len {α : Type} (L : List α) (o : Nat) (cs : List α) (h : o + cs.length ≤ L.length) : (splice L o cs).length = L.length := length_splice L o cs h
theorem flat_one {S : Nat → R.G} {n : Nat} : ∀ u, u ∈ flat (fun j => R.spl (S j)) n → u.oneCell' = true := by
  intro u hu
  obtain ⟨q, _, hq⟩ := List.mem_flatMap.1 hu
  simp [R.spl] at hq
  rcases hq with rfl | rfl | rfl | rfl | rfl <;> rfl
theorem spl_one {x : R.G} : ∀ u, u ∈ R.spl x → u.oneCell' = true := by
  intro u hq
  simp [R.spl] at hq
  rcases hq with rfl | rfl | rfl | rfl | rfl <;> rfl
theorem cell_row {W : World} {g o j : Nat} {L : List Value} {t : TypeId} {v : Value} (h : W.heap[g]? = some (.cells L.toArray t (0, 0))) (hv : L[o + j]? = some v) : W.cell? ((⟨g, o, none⟩ : Addr).add j) = some v := by
  have e0 : (⟨g, o, none⟩ : Addr).add j = ⟨g, o + j, none⟩ := by unfold Addr.add; split <;> simp_all
  rw [e0]
  simp [World.cell?, h, hv]
set_option maxRecDepth 100000 in
set_option maxHeartbeats 6400000 in
theorem iInsert_in {w : World} {lo g vb n cap i : Nat} {S : Nat → R.G} {x : R.G} {L : List Value} (hg : w.heap[g]? = some (.cells L.toArray 68 (0, 0))) (hlo : lo ≤ g) (hL : L.length = cap * 5) (ht : L.take (n * 5) = flat (fun j => R.spl (S j)) n) (hb : Blk w vb #[.int .i64 x.ly, .int .i64 x.xa, .int .i64 x.ya, .int .i64 x.xb, .int .i64 x.yb] 68) (hne : vb ≠ g) (hi : i < n) (hn : n ≤ 1048576) (hroom : n + 1 ≤ cap) (hmax : cap ≤ maxLen) :
    Calls Try.prog 76 #[.slice (some ⟨g, 0, none⟩) n cap, .int .i64 (i : Int), .slice (some ⟨vb, 0, none⟩) 1 1] w fun e w' => e = .returned (.slice (some ⟨g, 0, none⟩) (n + 1) cap) ∧ (∃ L' : List Value, w'.heap[g]? = some (.cells L'.toArray 68 (0, 0)) ∧ L'.length = L.length ∧ L'.take ((n + 1) * 5) = flat (fun j => R.spl (ins S i x j)) (n + 1)) ∧ Below lo w w' := by
  have hov : ∀ off lb cb, (callFunc 97 #[.slice (some ⟨vb, 0, none⟩) 1 1, .slice (some ⟨g, off, none⟩) lb cb]).run Try.prog w = .ok (.value (.bool false)) w := fun off lb cb => hov68 hb hg (by omega) hne off lb cb
  have hz2 : ¬ ((i : Int) = (n : Int)) := by omega
  have hw1 : wrap64 ((i : Int) + 1) = (i : Int) + 1 := by unfold wrap64; omega
  have hb1 : (0 : Int) ≤ (i : Int) + 1 := by omega
  have hin : i ≤ n := by omega
  have htn : ((i : Int) + 1).toNat = i + 1 := by omega
  have hb2 : ¬ (cap = i + 1) := by omega
  have hb3 : (i : Int) ≤ (n : Int) + 1 := by omega
  have hb4 : ¬ (cap = i) := by omega
  have hmx : cap ≤ 9223372036854775807 := by unfold maxLen at hmax; omega
  have HG : Hid (w.heap[g]? = some (.cells L.toArray 68 (0, 0)) ∧ lo ≤ g ∧ L.length = cap * 5 ∧ L.take (n * 5) = flat (fun j => R.spl (S j)) n ∧ Blk w vb #[.int .i64 x.ly, .int .i64 x.xa, .int .i64 x.ya, .int .i64 x.xb, .int .i64 x.yb] 68 ∧ vb ≠ g) := ⟨hg, hlo, hL, ht, hb, hne⟩
  clear hg hlo hL ht hb hne hmax
  go_enter Try.func76, Try.ntmps76
  go_upto_region 14 with fail
  go_upto_region 15 with (simp only [hov])
  refine wp_region_lastK w.heap.size (by kernel_rfl) rfl rfl (by kernel_rfl) (lastC_of 4 (by kernel_rfl)) ?_
  intro hne
  dsimp only [List.dropLast]
  repeat (go_big_quiet_step (fail))
  refine wpQuiet_nil ?_
  rintro u ⟨xk, hxk⟩
  have hR1 := xk.h
  rw [← hxk] at hR1
  clear hxk xk hne
  simp only [List.getLast, List.getLast_cons_cons, List.getLast_singleton]
  have hFl : (flat (fun j => R.spl (S j)) n).length = n * 5 := flat_len (m := 5) (fun _ => rfl) _
  have hgu : u.heap[g]? = some (.cells L.toArray 68 (0, 0)) := (hR1.block g (Array.getElem?_eq_some_iff.1 HG.out.1).1).trans HG.out.1
  have hbu : Blk u vb #[.int .i64 x.ly, .int .i64 x.xa, .int .i64 x.ya, .int .i64 x.xb, .int .i64 x.yb] 68 := HG.out.2.2.2.2.1.old hR1
  have hLL : L.length = cap * 5 := HG.out.2.2.1
  have hD : ((flat (fun j => R.spl (S j)) n).drop (i * 5)).length = (n - i) * 5 := by rw [List.length_drop, hFl]; omega
  refine wpList_copyV rfl (.tmp 73) (.tmp 76) 25 25 rfl 68 5 Try.underlying25 sz68 g ((i + 1) * 5) (n + 1 - (i + 1)) (cap - (i + 1)) ⟨g, i * 5, none⟩ (n + 1 - i) (cap - i) (by simp [Act.eval]) (by simp [Act.eval]) L 68 hgu ((flat (fun j => R.spl (S j)) n).drop (i * 5)) (by rw [hD]; simp only [Nat.min_def]; split <;> omega) (fun j v hj => cell_row hgu (by rw [List.getElem?_drop, ← HG.out.2.2.2.1] at hj; rw [List.getElem?_take] at hj; split at hj; exact hj; cases hj)) (by rw [hD]; omega) (fun v hv => flat_one v (List.mem_of_mem_drop hv)) lo w (hR1.mono (by have := (Array.getElem?_eq_some_iff.1 HG.out.1).1; have := HG.out.2.1; omega)) HG.out.2.1 ?_
  intro w5 HG5 hb5 hk5 hs5
  have hbv : Blk w5 vb #[.int .i64 x.ly, .int .i64 x.xa, .int .i64 x.ya, .int .i64 x.xb, .int .i64 x.yb] 68 := (hk5 vb HG.out.2.2.2.2.2).trans hbu
  have HX : Hid (Blk w5 vb #[.int .i64 x.ly, .int .i64 x.xa, .int .i64 x.ya, .int .i64 x.xb, .int .i64 x.yb] 68 ∧ L.length = cap * 5 ∧ ((flat (fun j => R.spl (S j)) n).drop (i * 5)).length = (n - i) * 5 ∧ Below lo w w5) := ⟨hbv, hLL, hD, hb5⟩
  obtain ⟨D, hDD⟩ : ∃ D, D = (flat (fun j => R.spl (S j)) n).drop (i * 5) := ⟨_, rfl⟩
  rw [← hDD] at HG5 HX
  have HDD : Hid (D = (flat (fun j => R.spl (S j)) n).drop (i * 5) ∧ (flat (fun j => R.spl (S j)) n).length = n * 5) := ⟨hDD, hFl⟩
  clear hFl hgu hbu hLL hD hR1 hb5 hk5 hs5 hbv hDD
  have hn6 : (R.spl x).length = Nat.min 1 (n + 1 - i) * 5 := by
    have e : Nat.min 1 (n + 1 - i) = 1 := by simp only [Nat.min_def]; split <;> omega
    rw [e]
    rfl
  have hs6 : ∀ j v, (R.spl x)[j]? = some v → w5.cell? ((⟨vb, 0, none⟩ : Addr).add j) = some v := fun j v hj => cell_row (L := R.spl x) (o := 0) (show w5.heap[vb]? = _ from HX.out.1) (by rw [Nat.zero_add]; exact hj)
  have hf6 : i * 5 + (R.spl x).length ≤ (splice L ((i + 1) * 5) D).length := by
    have h1 := HX.out.2.1
    have h2 := HX.out.2.2.1
    rw [splice_len _ _ _ (by omega), h1]
    simp only [R.spl, List.length_cons, List.length_nil]
    omega
  have H6 : Hid ((R.spl x).length = Nat.min 1 (n + 1 - i) * 5 ∧ (∀ j v, (R.spl x)[j]? = some v → w5.cell? ((⟨vb, 0, none⟩ : Addr).add j) = some v) ∧ i * 5 + (R.spl x).length ≤ (splice L ((i + 1) * 5) D).length) := ⟨hn6, hs6, hf6⟩
  clear hn6 hs6 hf6
  go_wp2_with (first | (refine wpList_copyV rfl (.tmp 80) (.tmp 81) 25 25 rfl 68 5 Try.underlying25 sz68 g (i * 5) (n + 1 - i) (cap - i) ⟨vb, 0, none⟩ 1 1 (by simp [Act.eval]) (by simp [Act.eval]) (splice L ((i + 1) * 5) D) 68 HG5.out (R.spl x) H6.out.1 H6.out.2.1 H6.out.2.2 (fun v hv => spl_one v hv) lo w HX.out.2.2.2 HG.out.2.1 ?_; intro w6 HG6 hb6 hk6 hs6))
  have HE : Hid ((splice (splice L ((i + 1) * 5) D) (i * 5) (R.spl x)).length = L.length ∧ (splice (splice L ((i + 1) * 5) D) (i * 5) (R.spl x)).take ((n + 1) * 5) = flat (fun j => R.spl (ins S i x j)) (n + 1)) := by
    have h1 := HX.out.2.1
    have h2 := HX.out.2.2.1
    have h3 := H6.out.2.2
    refine ⟨by rw [splice_len _ _ _ h3, splice_len _ _ _ (by omega)], ?_⟩
    obtain ⟨k, rfl⟩ : ∃ k, n = i + k := ⟨n - i, by omega⟩
    rw [flat_ins, HDD.out.1]
    exact ins_list HDD.out.2 rfl hi (by omega) HG.out.2.2.2.1
  have HB : Hid (Below lo w w6) := hb6
  clear hb6 hk6 hs6
  go_wp2
  go_ret
  exact ⟨rfl, ⟨_, HG6.out, HE.out.1, HE.out.2⟩, HB.out⟩
end Go.Proofs.Ytclnmikneomccaa
