/- A frame that comes in: opened, sized, copied. -/
import Derived.Test.YtdknclkecbdpgaaDoorWh
import Derived.Test.YtdknclkecbdpgaaDoorRj
import Derived.Test.YtdknclkecbdpgaaDoorOp
namespace Go.Proofs.YtdknclkecbdpgaaDoor
open Go.ChangeShapes Go.WideShapes Go.ChangeAt Go.RowKit Go.Joins Go.Deep
set_option linter.unusedVariables false
set_option linter.unusedSimpArgs false
theorem cells22 : Tryd.prog.cellsOf 22 = 1 := by kernel_rfl
theorem cells44 : Tryd.prog.cellsOf 44 = 2 := by kernel_rfl
theorem array2 {α : Type} {a : Array α} (h : a.size = 2) : ∃ x y, a = #[x, y] := by
  obtain ⟨l⟩ := a
  match l, h with
  | [x, y], _ => exact ⟨x, y, rfl⟩
set_option maxRecDepth 100000 in
theorem trod_bytes {H : Type} {enc : TypeId × Value → H} {W : World} {fuel : Nat} {c : Value} {x : DataW H × List MemPlace}
    (hf : DataW.trod enc Tryd.prog W 0 (fun _ => true) true fuel 22 [c] = some x) : ∃ (n : Nat) (g : Nat → Int), RdB W c n g ∧ n ≤ 9223372036854775807 ∧ ∀ i, i < n → 0 ≤ g i ∧ g i < 256 := by
  rcases open_ints Tryd.underlying22 Tryd.underlying5 cells5 hf with ⟨hcs0, _⟩ | ⟨a, len, cap, zs, hcs0, _, hl, hm, hz, _, hc, hw⟩
  · simp at hcs0
    subst hcs0
    exact ⟨0, fun _ => 0, Or.inl ⟨_, _, rfl, rfl⟩, by omega, fun i hi => by omega⟩
  simp at hcs0
  subst hcs0
  rw [maxLen_eq] at hm
  simp only [if_true] at hz
  by_cases h0 : len = 0
  · subst h0
    exact ⟨0, fun _ => 0, Or.inl ⟨_, _, rfl, rfl⟩, by omega, fun i hi => by omega⟩
  obtain ⟨b, o, spot⟩ := a
  have hspot : spot = none := by simpa [Addr.add] using World.cell?_spot (hc 0 (by omega))
  subst hspot
  refine ⟨len, fun i => zs.getD i 0, Or.inr ⟨b, o, cap, rfl, fun i hi => by rw [← add_plain]; exact hc i (by omega)⟩, by omega, fun i hi => ?_⟩
  have hmem : zs.getD i 0 ∈ zs := by
    rw [List.getD_eq_getElem?_getD, List.getElem?_eq_getElem (by omega)]
    exact List.getElem_mem _
  have h1 := hw _ hmem
  simp only [Lit.wf, Bool.and_eq_true, decide_eq_true_eq] at h1
  have h2 : IntKind.u8.min = 0 := by decide
  have h3 : IntKind.u8.max = 255 := by decide
  show 0 ≤ zs.getD i 0 ∧ zs.getD i 0 < 256
  omega
set_option maxRecDepth 100000 in
theorem open_frame {H : Type} {enc : TypeId × Value → H} {W : World} {base : Nat} {v : Value} {d : DataW H} {p : List MemPlace} (hv : Value.okWide Tryd.prog W .any base 44 v)
    (h : DataW.Trod enc Tryd.prog W 0 (fun _ => true) true 44 v d p) : ∃ (kd : Int) (c : Value) (n : Nat) (g : Nat → Int), v = .agg #[.int .i64 kd, c] ∧ RdB W c n g ∧ n ≤ 9223372036854775807 ∧ ∀ i, i < n → 0 ≤ g i ∧ g i < 256 := by
  obtain ⟨cs, rfl, hsz⟩ := okWide_struct Tryd.underlying44 hv
  obtain ⟨c0, c1, rfl⟩ := array2 (hsz.trans cells44)
  obtain ⟨fuel, hf⟩ := h
  have hf' : DataW.trod enc Tryd.prog W 0 (fun _ => true) true fuel 44 [c0, c1] = some (d, p) := by simpa [Value.cells] using hf
  obtain ⟨xs, m, _, _, _, hlen, hx⟩ := DataW.trod_struct Tryd.underlying44 hf'
  have hl : xs.length = 2 := hlen
  have g0 := hx 0 _ rfl
  have g1 := hx 1 _ rfl
  rw [List.getElem?_eq_getElem (by omega)] at g0 g1
  change DataW.trod enc Tryd.prog W 0 (fun _ => true) true m 2 (([c0, c1].drop 0).take (Tryd.prog.cellsOf 2)) = _ at g0
  change DataW.trod enc Tryd.prog W 0 (fun _ => true) true m 22 (([c0, c1].drop 1).take (Tryd.prog.cellsOf 22)) = _ at g1
  rw [cells2] at g0
  rw [cells22] at g1
  obtain ⟨a, e0, _, _⟩ := DataW.trod_int Tryd.underlying2 g0
  obtain ⟨n, g, r, hn, hb⟩ := trod_bytes (c := c1) g1
  simp at e0
  subst e0
  exact ⟨a, c1, n, g, rfl, r, hn, hb⟩
theorem _root_.Go.Proofs.YtdknclkecbdpgaaDoor.OwS.cellsOf {t : TypeId} {lo hi : Nat} {w : World} {g n cap : Nat} {F : Nat → Value} (h : OwS t lo hi w (.slice (some ⟨g, 0, none⟩) n cap) n F) : ∀ i, i < n → w.cell? ⟨g, 0 + i, none⟩ = some (F i) := by
  rcases h with ⟨e, _⟩ | ⟨g', cp, e, _, _, hs⟩
  · cases e
  · cases e
    exact fun i hi => hs.cell hi
set_option maxRecDepth 20000 in
set_option maxHeartbeats 3200000 in
theorem toFrm_any {w : World} {v : Value} {n : Nat} {F : Nat → Int} {kd : Int} (h : RdB w v n F) (hn : n ≤ 1000000000000) :
    Calls Tryd.prog 31 #[.agg #[.int .i64 kd, v]] w fun e w' => ∃ g, e = .returned (.agg #[.int .i64 kd, .slice (some ⟨g, 0, none⟩) n n]) ∧ OwS 5 w.heap.size w'.heap.size w' (.slice (some ⟨g, 0, none⟩) n n) n (cF F) ∧ Below w.heap.size w w' := by
  obtain ⟨z, hz⟩ : ∃ W, W = ((w.alloc (.cells #[.int .i64 kd, v] 44)).alloc (.cells #[.int .i64 0, .slice none 0 0] 49)).alloc (.cells #[.int .i64 kd, .slice none 0 0] 49) := ⟨_, rfl⟩
  have HB : Hid (Blk z (w.heap.size + 1) #[.int .i64 0, .slice none 0 0] 49 ∧ Blk z (w.heap.size + 1 + 1) #[.int .i64 kd, .slice none 0 0] 49 ∧ Below w.heap.size w z) := by rw [hz]; exact ⟨(Blk.new (by simp)).alloc _, Blk.new (by simp), (((Below.refl _ _).alloc (Nat.le_refl _) _).alloc (by simp) _).alloc (by simp <;> omega) _⟩
  have HR : Hid (RdB z v n F) := h.later HB.out.2.2
  clear h
  go_enter Tryd.func31, Tryd.ntmps31
  go_wp2_with fail
  rw [← hz]
  clear hz
  refine Calls.mono (toB_any HR.out hn) ?_
  rintro e x ⟨rfl, sm, b, hs⟩
  have HX : Hid (Seg x z.heap.size 5 0 n (cF F) ∧ Blk x (w.heap.size + 1) #[.int .i64 0, .slice none 0 0] 49 ∧ Blk x (w.heap.size + 1 + 1) #[.int .i64 kd, .slice none 0 0] 49 ∧ Below w.heap.size w x ∧ w.heap.size + 1 + 1 < z.heap.size ∧ z.heap.size < x.heap.size) := ⟨sm, HB.out.1.later b, HB.out.2.1.later b, HB.out.2.2.trans (b.mono HB.out.2.2.size), HB.out.2.1.lt, by omega⟩
  clear sm b hs HB HR
  have c0 := HX.out.2.1.cell (j := 0) (v := .int .i64 0) rfl
  have c1 := HX.out.2.1.cell (j := 1) (v := .slice none 0 0) rfl
  have e0 := HX.out.2.2.1.cell (j := 0) (v := .int .i64 kd) rfl
  have e1 := HX.out.2.2.1.cell (j := 1) (v := .slice none 0 0) rfl
  have f0 := HX.out.2.1.frozen 0
  have f1 := HX.out.2.1.frozen 1
  have h0 := HX.out.2.2.1.frozen 0
  have h1 := HX.out.2.2.1.frozen 1
  go_wp2
  obtain ⟨sg, _, _, bl, q1, q2⟩ := HX.out
  refine bodyPost_ret (v := .agg #[.int .i64 kd, .slice (some ⟨z.heap.size, 0, none⟩) n n]) (by simp [results, Tryd.results31, go_sem, c0, c1, e0, e1]) rfl ⟨z.heap.size, rfl, ?_, ?_⟩
  · exact Or.inr ⟨_, _, rfl, by omega, by simpa using q2, (((sg.setOther (by simp; omega) _).setOther (by simp; omega) _).setOther (by simp; omega) _)⟩
  · exact (((bl.setCell (by simp <;> omega) _).setCell (by simp <;> omega) _).setCell (by simp <;> omega) _)
set_option maxRecDepth 20000 in
theorem szB_any (ao : Option Addr) (n cap : Nat) (hn : n ≤ 9223372036854775807) (w : World) : Calls Tryd.prog 91 #[.slice ao n cap, .int .i64 1048576] w fun e w' => e = .returned (.int .i64 (if n ≤ 1048576 then 1048576 - (n : Int) else -1)) ∧ w' = w := by
  by_cases h : n ≤ 1048576
  · rw [if_pos h]
    have h1 : IntKind.i64.wrap (1048576 - (n : Int)) = 1048576 - n := wr64' (by omega) (by omega)
    have h2 : ¬ (1048576 - (n : Int)) < 0 := by omega
    go_enter Tryd.func91, Tryd.ntmps91
    go_wp2
    go_ret
    exact ⟨rfl, rfl⟩
  · rw [if_neg h]
    have h1 : IntKind.i64.wrap (1048576 - (n : Int)) = 1048576 - n := wr64' (by omega) (by omega)
    have h2 : (1048576 - (n : Int)) < 0 := by omega
    go_enter Tryd.func91, Tryd.ntmps91
    go_wp2
    go_ret
    exact ⟨rfl, rfl⟩
set_option maxRecDepth 20000 in
theorem szFrm_any (kd : Int) (ao : Option Addr) (n cap : Nat) (hn : n ≤ 9223372036854775807) (w : World) : Calls Tryd.prog 29 #[.agg #[.int .i64 kd, .slice ao n cap], .int .i64 1048576] w fun e w' => e = .returned (.int .i64 (if n ≤ 1048576 then 1048576 - (n : Int) else -1)) ∧ Below w.heap.size w w' := by
  have hb : Hid (Below w.heap.size w (w.alloc (.cells #[.int .i64 kd, .slice ao n cap] 44))) := (Below.refl _ _).alloc (Nat.le_refl _) _
  have HS : Hid (∀ W, Calls Tryd.prog 91 #[.slice ao n cap, .int .i64 1048576] W fun e w' => e = .returned (.int .i64 (if n ≤ 1048576 then 1048576 - (n : Int) else -1)) ∧ w' = W) := szB_any ao n cap hn
  by_cases h : n ≤ 1048576
  · rw [if_pos h] at HS ⊢
    have h2 : ¬ (1048576 - (n : Int)) < 0 := by omega
    obtain ⟨m, hm⟩ : ∃ m : Int, m = 1048576 - (n : Int) := ⟨_, rfl⟩
    rw [← hm] at HS h2 ⊢
    clear hm
    go_enter Tryd.func29, Tryd.ntmps29
    go_wp2_with fail
    refine Calls.mono (HS.out _) ?_
    rintro e x ⟨rfl, rfl⟩
    go_wp2
    go_ret
    exact ⟨rfl, hb.out⟩
  · rw [if_neg h] at HS ⊢
    go_enter Tryd.func29, Tryd.ntmps29
    go_wp2_with fail
    refine Calls.mono (HS.out _) ?_
    rintro e x ⟨rfl, rfl⟩
    go_wp2
    go_ret
    exact ⟨rfl, hb.out⟩
/-- Both functions at a frame of one list. -/
theorem wf_both (kd : Int) (n : Nat) (F : Nat → Int) (hF : By n F) (hm : n ≤ 1000000000000) : ∃ (c : Int) (N : Nat) (f : Nat → Int), N ≤ 1000000 ∧
    (∀ (W : World) (b off cap : Nat), (∀ i, i < n → W.cell? ⟨b, off + i, none⟩ = some (.int .u8 (F i))) → FB 5 30 #[.agg #[.int .i64 kd, .slice (some ⟨b, off, none⟩) n cap]] W c N (cF f)) ∧
    (∀ (W : World) (b off cap : Nat), (∀ i, i < n → W.cell? ⟨b, off + i, none⟩ = some (.int .u8 (F i))) → Et W → FB 5 32 #[.agg #[.int .i64 kd, .slice (some ⟨b, off, none⟩) n cap]] W c N (cF f)) := by
  by_cases hc : wcode kd n = 0
  · have h1 : n ≤ 100000 := by
      rcases Nat.lt_or_ge 100000 n with h | h
      · unfold wcode at hc; rw [if_pos h] at hc; omega
      · exact h
    have h2 : ¬ (kd < 0 ∨ 255 < kd ∨ 1000 < n) := by
      intro h
      unfold wcode at hc
      rw [if_neg (by omega), if_pos h] at hc
      omega
    exact ⟨0, 5 + n + 2, wfr kd n F, by omega, fun W b off cap h => sWF_ok h hF (by omega) (by omega) (by omega), fun W b off cap h hE => iWF_ok h hF (by omega) (by omega) (by omega) hc hE⟩
  · refine ⟨wcode kd n, 0, F, by omega, fun W b off cap h => ?_, fun W b off cap h hE => iWF_bad (G := F) hm hc hE F⟩
    by_cases h1 : 100000 < n
    · have e : wcode kd n = 2 := by unfold wcode; rw [if_pos h1]
      rw [e]
      exact sWF_0 hm h1 F
    by_cases h2 : kd < 0 ∨ 255 < kd ∨ 1000 < n
    · have e : wcode kd n = 1 := by unfold wcode; rw [if_neg h1, if_pos h2]
      rw [e]
      by_cases h3 : kd < 0
      · exact sWF_1 hm (by omega) h3 F
      by_cases h4 : 255 < kd
      · exact sWF_2 hm (by omega) h4 F
      exact sWF_3 hm (by omega) (by omega) (by omega) (by omega) F
    · exact absurd (by unfold wcode; rw [if_neg h1, if_neg h2]) hc
end Go.Proofs.YtdknclkecbdpgaaDoor
