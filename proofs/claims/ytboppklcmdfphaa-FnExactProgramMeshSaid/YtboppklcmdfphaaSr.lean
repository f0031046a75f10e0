/- The specification's matrix of a mesh: contract. -/
import Derived.Test.YtboppklcmdfphaaSf
import Derived.Test.YtboppklcmdfphaaAux
namespace Go.Proofs.Ytboppklcmdfphaa
open Go.RowKit
set_option linter.unusedVariables false
set_option linter.unusedSimpArgs false
/-- Rows of noughts that are built one behind another. -/
structure Rb (lo : Nat) (W : World) (i n : Nat) (v : Value) (bs : Nat → Nat) : Prop where
  own : W.ownsRow lo 32 1 v i ((List.range i).map fun r => .slice (some ⟨bs r, 0, none⟩) n n)
  rows : ∀ r, r < i → lo ≤ bs r ∧ Seg W (bs r) 2 0 n (fun _ => .int .i64 0)
  apart : ∀ r s, r < i → s < i → bs r = bs s → r = s
theorem Rb.step {lo : Nat} {W w1 : World} {i n : Nat} {v v1 : Value} {bs : Nat → Nat} (h : Rb lo W i n v bs) (hl : lo ≤ W.heap.size) {o : Obj} (ho : Seg (W.alloc o) W.heap.size 2 0 n (fun _ => .int .i64 0))
    (hown : w1.ownsRow lo 32 1 v1 (i + 1) (((List.range i).map fun r => .slice (some ⟨bs r, 0, none⟩) n n) ++ [.slice (some ⟨W.heap.size, 0, none⟩) n n]))
    (hgr : ((W.alloc o).alloc (.cells #[.slice (some ⟨W.heap.size, 0, none⟩) n n] 32)).grownBy w1 v.ownBlock) : Rb lo w1 (i + 1) n v1 (fun r => if r = i then W.heap.size else bs r) := by
  have hO : (W.alloc o).ownsRow lo 32 1 v i ((List.range i).map fun r => .slice (some ⟨bs r, 0, none⟩) n n) := owns_later h.own ((Below.refl _ _).alloc (Nat.le_refl _) _)
  have old : ∀ (b : Nat) (f : Nat → Value), Seg (W.alloc o) b 2 0 n f → Seg w1 b 2 0 n f := fun b f hf => (hf.alloc _).grown hgr (owns_ne hO hf (by decide))
  refine ⟨?_, fun r hr => ?_, fun r s hr hs e => ?_⟩
  · have e : (List.range (i + 1)).map (fun r => Value.slice (some ⟨if r = i then W.heap.size else bs r, 0, none⟩) n n) = ((List.range i).map fun r => Value.slice (some ⟨bs r, 0, none⟩) n n) ++ [Value.slice (some ⟨W.heap.size, 0, none⟩) n n] := by
      rw [List.range_succ, List.map_append]
      congr 1
      · exact List.map_congr_left fun r hr => by
          have := List.mem_range.1 hr
          rw [if_neg (by omega)]
      · simp
    rw [e]
    exact hown
  · by_cases e : r = i
    · subst e
      simp only [if_true]
      exact ⟨hl, old _ _ ho⟩
    · simp only [e, if_false]
      have := h.rows r (by omega)
      exact ⟨this.1, old _ _ (this.2.alloc _)⟩
  · by_cases e1 : r = i
    · by_cases e2 : s = i
      · omega
      · simp only [e1, e2, if_true, if_false] at e
        have := (h.rows s (by omega)).2.lt
        omega
    · by_cases e2 : s = i
      · simp only [e1, e2, if_true, if_false] at e
        have := (h.rows r (by omega)).2.lt
        omega
      · simp only [e1, e2, if_false] at e
        exact h.apart r s (by omega) (by omega) e
theorem Rb.mat {lo : Nat} {W : World} {n g cap : Nat} {bs : Nat → Nat} (h : Rb lo W n n (.slice (some ⟨g, 0, none⟩) n cap) bs) (hs : Seg W g 32 0 n (fun r => .slice (some ⟨bs r, 0, none⟩) n n)) (hg : lo ≤ g) :
    Mat lo W.heap.size W ⟨g, cap, bs, fun _ => 0, fun _ => n⟩ n (fun _ => n) (fun _ _ => 0) :=
  ⟨hs, fun r hr => (h.rows r hr).2, hg, hs.lt, fun r hr => (h.rows r hr).1, fun r hr => (h.rows r hr).2.lt, h.apart⟩
/-- One number 1, the others 0. -/
def unt (k i : Nat) : Int := if i = k then 1 else 0
/-- The matrix of a mesh. -/
def rdm (ph : Nat → Int) (C : Nat → Ce) (nc : Nat) : Rm.Mx := fun i k => Rm.fire ph C (unt k) nc i
set_option maxRecDepth 20000 in
set_option maxHeartbeats 3200000 in
theorem sRead_any {w : World} {ao bo : Option Addr} {np nc cp cq : Nat} {sd : Int} {ph : Nat → Int} {C : Nat → Ce} (h : Me w (.slice ao np cp) (.slice bo nc cq) np ph nc C) (hn0 : 0 < np) (hn : np ≤ 24) (hc : nc ≤ 600) (hsd : (np : Int) = sd) (hfit : Rm.fitsB (np : Int) C nc = true) :
    Calls Try.prog 76 #[.agg #[.int .i64 sd, .slice ao np cp, .slice bo nc cq]] w fun e w' => ∃ m : Lie, e = .returned (.slice (some ⟨m.b, 0, none⟩) np m.cap) ∧ Mat w.heap.size w'.heap.size w' m np (fun _ => np) (rdm ph C nc) ∧ Below w.heap.size w w' := by
  subst hsd
  obtain ⟨X, hX⟩ : ∃ X, X = (w.alloc (.cells #[.int .i64 ((np : Nat) : Int), .slice ao np cp, .slice bo nc cq] 49)) := ⟨_, rfl⟩
  have BX : Hid (Blk X w.heap.size #[.int .i64 ((np : Nat) : Int), .slice ao np cp, .slice bo nc cq] 49 ∧ Below w.heap.size w X) := by rw [hX]; exact ⟨Blk.new rfl, (Below.refl _ _).alloc (Nat.le_refl _) _⟩
  have hX0 : w.heap.size < X.heap.size := BX.out.1.lt
  have HM : ∀ W, Below X.heap.size X W → Hid (Me W (.slice ao np cp) (.slice bo nc cq) np ph nc C) := fun W hb => h.later (BX.out.2.trans (hb.mono (Nat.le_of_lt hX0)))
  clear h
  have hXs : Hid (X.heap.size = w.heap.size + 1) := by rw [hX]; show (w.alloc _).heap.size = _; simp
  have HF : Hid (Rm.fitsB (np : Int) C nc = true) := hfit
  clear hfit
  have hmk := run_make_row' (P := Try.prog) 32 2 (.int .i64 0) 8 Try.underlying32 info2 rfl .i64 .i64 np (by omega) (by omega)
  go_enter Try.func76, Try.ntmps76
  go_wp2_with fail
  rw [← hX]
  clear hX
  go_loopw [4, 3] (fun s v wr => ∃ (i : Nat) (bs : Nat → Nat), i ≤ np ∧ s = .int .i64 i ∧ Hid (Rb X.heap.size wr i np v bs ∧ Below X.heap.size X wr)) (fun s _ _ => np - (intOf s).toNat)
  case atStart => exact ⟨0, fun _ => 0, Nat.zero_le _, rfl, ⟨by rw [show w.heap.size + 1 = X.heap.size from hXs.out.symm]; exact owns_empty X 32, fun r hr => absurd hr (Nat.not_lt_zero _), fun r s hr => absurd hr (Nat.not_lt_zero _)⟩, (Below.refl _ _).alloc (Nat.le_refl _) _⟩
  case round =>
    obtain ⟨i, bs, hi, rfl, HB⟩ := hrel
    have hB := BX.out.1.old HB.out.2
    have x0 := hB.cell (j := 0) rfl
    have hlt := hB.lt
    clear hB
    have hz0 : X.heap.size ≤ wr.heap.size := HB.out.2.size
    by_cases hin : i < np
    · have hO : Hid ((wr.alloc (.cells (madeCells #[.int .i64 0] np) 2)).ownsRow X.heap.size 32 1 u3 i ((List.range i).map fun r => .slice (some ⟨bs r, 0, none⟩) np np)) := owns_later HB.out.1.own ((Below.refl _ _).alloc (Nat.le_refl _) _)
      go_wp2_with (first | (at_builtin; refine push_law rfl (.tmp 16) (.tmp 20) 22 rfl 32 (.slice none 0 0) 24 Try.underlying22 info38 rfl (by decide) (wr.alloc (.cells (madeCells #[.int .i64 0] np) 2)) _ rfl X.heap.size u3 i _ rfl hO.out 1 (by show Value.slice (some ⟨wr.heap.size + 1, 0, none⟩) 1 1 = _; simp) (by omega) (by simp; omega) ?_; intro v1 w1 hown1 hgrow1))
      have HN : Hid (Rb X.heap.size w1 (i + 1) np v1 (fun r => if r = i then wr.heap.size else bs r) ∧ Below X.heap.size X w1) :=
        ⟨HB.out.1.step hz0 (seg_made wr _ np 2) hown1 hgrow1, push_below hO.out hgrow1 (HB.out.2.alloc hz0 _) (by simp; omega)⟩
      clear hown1 hgrow1 hO HB x0
      go_wp2
      exact ⟨⟨i + 1, _, by omega, by simp, HN⟩, by simp [intOf]; omega⟩
    · obtain rfl : i = np := by omega
      obtain ⟨g, cap, hv, hgl, hseg⟩ := owned_seg HB.out.1.own hn0
      subst hv
      have HMt : Hid (Mat X.heap.size wr.heap.size wr ⟨g, cap, bs, fun _ => 0, fun _ => i⟩ i (fun _ => i) (fun _ _ => 0)) := HB.out.1.mat hseg hgl
      obtain ⟨m, hm⟩ : ∃ m : Lie, m = ⟨g, cap, bs, fun _ => 0, fun _ => i⟩ := ⟨_, rfl⟩
      have HMm : Hid (m.b = g ∧ m.cap = cap ∧ (∀ r, m.os r = 0)) := by rw [hm]; exact ⟨rfl, rfl, fun _ => rfl⟩
      rw [← hm] at HMt
      obtain ⟨Y, hY⟩ : ∃ Y, Y = wr := ⟨_, rfl⟩
      subst hY
      have H2 : Hid (Mat X.heap.size Y.heap.size Y m i (fun _ => i) (fun r c => if c < 0 then rdm ph C nc r c else 0) ∧ Below X.heap.size X Y) := ⟨HMt.out.congr (fun r c _ _ => by simp), HB.out.2⟩
      clear HB hseg hgl hm HMt
      go_wp2_with fail
      clear x0
      go_loopw [5] (fun s wr => ∃ k : Nat, k ≤ i ∧ s = .int .i64 k ∧ Hid (Mat X.heap.size Y.heap.size wr m i (fun _ => i) (fun r c => if c < k then rdm ph C nc r c else 0) ∧ Below X.heap.size X wr ∧ Y.heap.size ≤ wr.heap.size)) (fun s _ => i - (intOf s).toNat)
      case atStart => exact ⟨0, Nat.zero_le _, rfl, H2.out.1, H2.out.2, Nat.le_refl _⟩
      case round =>
        obtain ⟨k, hk, rfl, HS⟩ := hrel
        have hB := BX.out.1.old HS.out.2.1
        have x0 := hB.cell (j := 0) rfl
        have x1 := hB.cell (j := 1) rfl
        have x2 := hB.cell (j := 2) rfl
        have hlt := hB.lt
        clear hB
        by_cases hkn : k < i
        · obtain ⟨V, hV⟩ : ∃ V, V = wr.alloc (.cells ((madeCells #[.int .i64 0] i).setIfInBounds k (.int .i64 1)) 2) := ⟨_, rfl⟩
          have eV : V = (wr.alloc (.cells (madeCells #[.int .i64 0] i) 2)).setCell ⟨wr.heap.size, k, none⟩ (.int .i64 1) := by rw [hV]; symm; first | (go_simp; done) | simp [World.setCell, World.alloc]
          have sm := seg_made wr (.int .i64 0) i 2
          have m1 : (wr.alloc (.cells (madeCells #[.int .i64 0] i) 2)).cell? ⟨wr.heap.size, k, none⟩ = some (.int .i64 0) := by simpa using sm.cell hkn
          have m2 : (wr.alloc (.cells (madeCells #[.int .i64 0] i) 2)).frozen? ⟨wr.heap.size, k, none⟩ = false := sm.frozen k
          have BV : Hid (Seg V wr.heap.size 2 0 i (fun r => .int .i64 (unt k r)) ∧ Below wr.heap.size wr V) := by
            rw [eV]
            refine ⟨?_, ((Below.refl _ _).alloc (Nat.le_refl _) _).setCell (Nat.le_refl _) _⟩
            have := sm.set k hkn (.int .i64 1)
            rw [Nat.zero_add] at this
            refine this.congr fun r _ => ?_
            unfold unt
            by_cases e : r = k
            · simp [e]
            · simp [e]
          clear sm
          go_wp2_with fail
          rw [← hV]
          clear hV eV m1 m2 x0 x1 x2
          have zV : wr.heap.size + 1 ≤ V.heap.size := BV.out.1.lt
          have HV : Hid (Below X.heap.size X V) := HS.out.2.1.trans (BV.out.2.mono HS.out.2.1.size)
          refine (sFire_any (HM _ HV.out).out BV.out.1.rd hn0 hn hc HF.out).mono ?_
          rintro e w3 ⟨go, co, rfl, hgo, hgo2, hso, hb3⟩
          have H3 : Hid (Mat X.heap.size Y.heap.size w3 m i (fun _ => i) (fun r c => if c < k ∨ (c = k ∧ r < 0) then rdm ph C nc r c else 0) ∧ Below X.heap.size X w3 ∧ Y.heap.size ≤ w3.heap.size) := by
            have h1 := HS.out.2.2
            have h2 := hb3.size
            refine ⟨(HS.out.1.keep fun q _ h2 => (hb3.block q (by omega)).trans (BV.out.2.block q (by omega))).congr (fun r c _ _ => by simp), HV.out.trans (hb3.mono (by have := HS.out.2.1.size; omega)), by omega⟩
          have hYgo : Y.heap.size ≤ go := by have := HS.out.2.2; omega
          have HO : Hid (Seg w3 go 2 0 i (fun r => .int .i64 (Rm.fire ph C (unt k) nc r))) := hso
          clear HS BV HV hso hb3 hgo zV
          obtain ⟨Z, hZ⟩ : ∃ Z, Z = w3 := ⟨_, rfl⟩
          subst hZ
          go_wp2_with fail
          go_loopw [8] (fun s wr => ∃ j : Nat, j ≤ i ∧ s = .int .i64 j ∧ Hid (Mat X.heap.size Y.heap.size wr m i (fun _ => i) (fun r c => if c < k ∨ (c = k ∧ r < j) then rdm ph C nc r c else 0) ∧ Below X.heap.size X wr ∧ Y.heap.size ≤ wr.heap.size ∧ Seg wr go 2 0 i (fun r => .int .i64 (Rm.fire ph C (unt k) nc r)))) (fun s _ => i - (intOf s).toNat)
          case atStart => exact ⟨0, Nat.zero_le _, rfl, H3.out.1, H3.out.2.1, H3.out.2.2, HO.out⟩
          case round =>
            obtain ⟨j, hj, rfl, HS⟩ := hrel
            have hB := BX.out.1.old HS.out.2.1
            have x0 := hB.cell (j := 0) rfl
            have hlt := hB.lt
            clear hB
            by_cases hjn : j < i
            · have g1 : wr.cell? ⟨g, j, none⟩ = some (.slice (some ⟨m.bs j, 0, none⟩) i (m.cs j)) := by have := HS.out.1.cellRow hjn; rw [HMm.out.1, HMm.out.2.2] at this; exact this
              have g2 : wr.cell? ⟨go, j, none⟩ = some (.int .i64 (Rm.fire ph C (unt k) nc j)) := by simpa using HS.out.2.2.2.cell hjn
              have g3 : ∃ o : Int, wr.cell? ⟨m.bs j, k, none⟩ = some (.int .i64 o) := by have := HS.out.1.cellAt hjn hkn; rw [HMm.out.2.2, Nat.zero_add] at this; exact ⟨_, this⟩
              obtain ⟨ov, g3⟩ := g3
              have g4 : wr.frozen? ⟨m.bs j, k, none⟩ = false := (HS.out.1.row j hjn).frozen _
              have hmg := HS.out.1.rhi j hjn
              have HN : ∀ W, (∀ q : Nat, W.heap[q]? = wr.heap[q]?) → W.heap.size = wr.heap.size → Below wr.heap.size wr W → Hid (Mat X.heap.size Y.heap.size (W.setCell ⟨m.bs j, k, none⟩ (.int .i64 (Rm.fire ph C (unt k) nc j))) m i (fun _ => i) (fun r c => if c < k ∨ (c = k ∧ r < j + 1) then rdm ph C nc r c else 0) ∧ Below X.heap.size X (W.setCell ⟨m.bs j, k, none⟩ (.int .i64 (Rm.fire ph C (unt k) nc j))) ∧ Y.heap.size ≤ (W.setCell ⟨m.bs j, k, none⟩ (.int .i64 (Rm.fire ph C (unt k) nc j))).heap.size ∧ Seg (W.setCell ⟨m.bs j, k, none⟩ (.int .i64 (Rm.fire ph C (unt k) nc j))) go 2 0 i (fun r => .int .i64 (Rm.fire ph C (unt k) nc r))) := fun W hW hWs hWb => by
                have h0 := (HS.out.1.keep (w' := W) fun q _ _ => hW q).set hjn hkn (Rm.fire ph C (unt k) nc j)
                rw [HMm.out.2.2, Nat.zero_add] at h0
                refine ⟨h0.congr fun r c _ _ => ?_, (HS.out.2.1.trans (hWb.mono HS.out.2.1.size)).setCell (p := ⟨m.bs j, k, none⟩) (HS.out.1.rlo j hjn) _, by rw [World.size_setCell, hWs]; exact HS.out.2.2.1, (HS.out.2.2.2.of_block (hW go)).setOther (by show go ≠ m.bs j; omega) _⟩
                by_cases e : r = j ∧ c = k
                · obtain ⟨rfl, rfl⟩ := e
                  rw [if_pos ⟨rfl, rfl⟩, if_pos (by omega)]
                  rfl
                · rw [if_neg e]
                  by_cases e2 : c < k ∨ (c = k ∧ r < j)
                  · rw [if_pos e2, if_pos (by omega)]
                  · rw [if_neg e2, if_neg (by omega)]
              clear HS
              go_wp2_with fail
              go_region
              go_wp2
              exact ⟨⟨j + 1, by omega, by simp, HN wr.drew (fun _ => rfl) rfl (Below.refl _ _).drew⟩, by simp [intOf]; omega⟩
            · obtain rfl : j = i := by omega
              have HN : Hid (Mat X.heap.size Y.heap.size wr m j (fun _ => j) (fun r c => if c < k + 1 then rdm ph C nc r c else 0) ∧ Below X.heap.size X wr ∧ Y.heap.size ≤ wr.heap.size) := ⟨HS.out.1.congr (fun r c hr _ => by
                by_cases e2 : c < k ∨ (c = k ∧ r < j)
                · rw [if_pos e2, if_pos (by omega)]
                · rw [if_neg e2, if_neg (by omega)]), HS.out.2.1, HS.out.2.2.1⟩
              clear HS H3 HO
              go_wp2
              exact ⟨⟨k + 1, by omega, by simp, HN⟩, by simp [intOf]; omega⟩
        · obtain rfl : k = i := by omega
          clear HM H2
          go_wp2
          go_ret
          refine ⟨m, by rw [HMm.out.1, HMm.out.2.1]; rfl, ((HS.out.1.congr (fun r c _ hc => by simp [hc])).wide (by omega) HS.out.2.2), BX.out.2.trans (HS.out.2.1.mono (Nat.le_of_lt hX0))⟩
end Go.Proofs.Ytboppklcmdfphaa
