/- NeighboursOf of both packages, its result: contracts. -/
import Derived.Test.YtfpklfpcencimaaNt2
import Derived.Test.YtfpklfpcencimaaAp
namespace Go.Proofs.Ytfpklfpcencimaa
open Go.RowKit
set_option linter.unusedVariables false
set_option linter.unusedSimpArgs false
def Nt.nbcode (nodes slots : Int) (nf : Nat) (F : Nat → Fb) (v : Int) : Int := if Nt.nfault nodes slots nf F ≠ 0 then Nt.nfault nodes slots nf F else if Nt.isN nodes v then 0 else 1
theorem Blk.grown {w w' : World} {b : Nat} {cs : Array Value} {t : TypeId} {row : Option Nat} (h : Blk w b cs t) (hg : w.grownBy w' row) (hr : ∀ g, row = some g → g ≠ b) : Blk w' b cs t :=
  (hg.block b h.lt fun e => hr b e.symm rfl).trans h
/-- How many places are left behind the one that is told. -/
def mnx (nf : Nat) (s7 s8 : Value) (wr : World) : Nat :=
  match s7, s8 with
  | .pointer (some a), .bool true => nf + 1 - (intOf ((wr.cell? ⟨a.block, 1, none⟩).getD undef)).toNat
  | _, _ => 0
set_option maxRecDepth 20000 in
set_option maxHeartbeats 1600000 in
theorem sNei_any {w : World} {ao : Option Addr} {nf cp : Nat} {nodes slots v c : Int} {F : Nat → Fb} (hc : c = Nt.nbcode nodes slots nf F v) (h : Rf w (.slice ao nf cp) nf F) (hf : nf ≤ 1048576) :
    Calls Try.prog 6 #[.agg #[.int .i64 nodes, .int .i64 slots, .slice ao nf cp], .int .i64 v] w fun e w' => ∃ l, e = .returned (.agg #[.int .i64 c, l]) ∧ OwnN w.heap.size w'.heap.size w' c l (Nt.near F v nf) ∧ Below w.heap.size w w' := by
  obtain ⟨X, hX⟩ : ∃ X, X = (w.alloc (.cells #[.int .i64 nodes, .int .i64 slots, .slice ao nf cp] 32)).alloc (.cells #[.int .i64 0, .slice none 0 0] 28) := ⟨_, rfl⟩
  have BX : Hid (Blk X w.heap.size #[.int .i64 nodes, .int .i64 slots, .slice ao nf cp] 32 ∧ Blk X (w.heap.size + 1) #[.int .i64 0, .slice none 0 0] 28 ∧ Below w.heap.size w X) := by
    rw [hX]
    exact ⟨(Blk.new rfl).alloc _, Blk.new (by simp), ((Below.refl _ _).alloc (Nat.le_refl _) _).alloc (by simp) _⟩
  have hXz : w.heap.size + 1 < X.heap.size := BX.out.2.1.lt
  have H : ∀ W, Below X.heap.size X W → Hid (Rf W (.slice ao nf cp) nf F) := fun W hb => h.later (BX.out.2.2.trans (hb.mono (by omega)))
  have HC : Hid (c = Nt.nbcode nodes slots nf F v) := hc
  have HL : Hid ((Nt.near F v nf).length ≤ 1048576) := Nat.le_trans (Nt.near_len nf) hf
  clear h hc
  have x0 := BX.out.2.1.cell (j := 0) rfl
  have x1 := BX.out.2.1.cell (j := 1) rfl
  have y0 := BX.out.1.cell (j := 0) rfl
  have y1 := BX.out.1.cell (j := 1) rfl
  have y2 := BX.out.1.cell (j := 2) rfl
  go_enter Try.func6, Try.ntmps6
  go_wp2_with fail
  rw [← hX]
  clear hX
  go_wp2_with fail
  refine (sNf_any (H _ (Below.refl _ _)).out hf).mono ?_
  rintro e w1 ⟨rfl, hb1⟩
  have H1 : Hid (Below X.heap.size X w1) := hb1
  clear hb1 x0 x1 y0 y1 y2
  have y0 := (BX.out.1.old H1.out).cell (j := 0) rfl
  have y1 := (BX.out.1.old H1.out).cell (j := 1) rfl
  have y2 := (BX.out.1.old H1.out).cell (j := 2) rfl
  have x0 := (BX.out.2.1.old H1.out).cell (j := 0) rfl
  have x1 := (BX.out.2.1.old H1.out).cell (j := 1) rfl
  have fz := (BX.out.2.1.old H1.out).frozen
  obtain ⟨d, hd⟩ : ∃ d, d = Nt.nfault nodes slots nf F := ⟨_, rfl⟩
  have HD : Hid (d = Nt.nfault nodes slots nf F) := hd
  rw [← hd]
  clear hd
  by_cases hz : d = 0
  · subst hz
    go_wp2_with fail
    refine (sNode_any _ _ _ _ _ _ _).mono ?_
    rintro e w2 ⟨rfl, hb2⟩
    have H2 : Hid (Below X.heap.size X w2) := box_step H1.out hb2 (Nat.le_refl _)
    clear hb2 x0 x1 y0 y1 y2 fz
    have y0 := (BX.out.1.old H2.out).cell (j := 0) rfl
    have y1 := (BX.out.1.old H2.out).cell (j := 1) rfl
    have y2 := (BX.out.1.old H2.out).cell (j := 2) rfl
    have x0 := (BX.out.2.1.old H2.out).cell (j := 0) rfl
    have x1 := (BX.out.2.1.old H2.out).cell (j := 1) rfl
    have fz := (BX.out.2.1.old H2.out).frozen
    obtain ⟨q, hq⟩ : ∃ q, q = Nt.isN nodes v := ⟨_, rfl⟩
    have HQ : Hid (q = Nt.isN nodes v) := hq
    rw [← hq]
    clear hq
    cases q
    · have E : Hid (c = 1) := by show c = 1; rw [HC.out]; unfold Nt.nbcode; rw [if_neg (by rw [← HD.out]; simp), ← HQ.out]; rfl
      obtain rfl := E.out
      go_wp2_with fail
      refine bodyPost_ret (v := .agg #[.int .i64 1, .slice none 0 0]) ?_ rfl ⟨_, rfl, Or.inl ⟨by omega, rfl⟩, (BX.out.2.2.trans ((H2.out).mono (by omega))).setCell (by simp) _ |>.setCell (by simp) _⟩
      simp [results, Try.results6, go_sem, x0, x1]
    · have E : Hid (c = 0) := by show c = 0; rw [HC.out]; unfold Nt.nbcode; rw [if_neg (by rw [← HD.out]; simp), ← HQ.out]; rfl
      obtain rfl := E.out
      go_wp2_with fail
      refine (sNear_any v (H _ H2.out).out hf).mono ?_
      rintro e w3 ⟨l, rfl, ho, hb3⟩
      have H3 : Hid (Below X.heap.size X w3) := box_step H2.out hb3 (Nat.le_refl _)
      have HN : Hid (OwnN w.heap.size w3.heap.size w3 0 l (Nt.near F v nf)) := by
        refine Or.inr ⟨rfl, ?_⟩
        rcases owned_in ho with h | ⟨g, cap, e, h1, h2, h3⟩
        · exact Or.inl h
        · exact Or.inr ⟨g, cap, e, by have := H2.out.size; omega, h2, h3⟩
      have HG : Hid (∀ W, (∀ g, X.heap.size ≤ g → W.heap[g]? = w3.heap[g]?) → w3.heap.size ≤ W.heap.size → OwnN w.heap.size W.heap.size W 0 l (Nt.near F v nf)) := by
        intro W hW hs
        refine Or.inr ⟨rfl, ?_⟩
        rcases owned_in ho with h | ⟨g, cap, e, h1, h2, h3⟩
        · exact Or.inl h
        · exact Or.inr ⟨g, cap, e, by have := H2.out.size; omega, by omega, h3.of_block (hW g (by have := H2.out.size; omega))⟩
      obtain ⟨ao2, k2, cap2, rfl⟩ := HN.out.rd.shape
      clear hb3 x0 x1 y0 y1 y2 fz ho HN
      have x0 := (BX.out.2.1.old H3.out).cell (j := 0) rfl
      have x1 := (BX.out.2.1.old H3.out).cell (j := 1) rfl
      have fz := (BX.out.2.1.old H3.out).frozen
      have HB : Hid (Blk ((w3.setCell ⟨w.heap.size + 1, 0, none⟩ (.int .i64 0)).setCell ⟨w.heap.size + 1, 1, none⟩ (.slice ao2 k2 cap2)) (w.heap.size + 1) #[.int .i64 0, .slice ao2 k2 cap2] 28 ∧ Below w.heap.size w ((w3.setCell ⟨w.heap.size + 1, 0, none⟩ (.int .i64 0)).setCell ⟨w.heap.size + 1, 1, none⟩ (.slice ao2 k2 cap2)) ∧ OwnN w.heap.size ((w3.setCell ⟨w.heap.size + 1, 0, none⟩ (.int .i64 0)).setCell ⟨w.heap.size + 1, 1, none⟩ (.slice ao2 k2 cap2)).heap.size ((w3.setCell ⟨w.heap.size + 1, 0, none⟩ (.int .i64 0)).setCell ⟨w.heap.size + 1, 1, none⟩ (.slice ao2 k2 cap2)) 0 (.slice ao2 k2 cap2) (Nt.near F v nf)) := by
        refine ⟨((BX.out.2.1.old H3.out).set 0 _ rfl).set 1 _ rfl, ((BX.out.2.2.trans (H3.out.mono (by omega))).setCell (by simp) _).setCell (by simp) _, HG.out _ (fun g hg => ?_) (by simp)⟩
        rw [Below.heap_setCell _ _ _ _ (by simp; omega), Below.heap_setCell _ _ _ _ (by simp; omega)]
      clear HG
      go_wp2_with fail
      have r0 := HB.out.1.cell (j := 0) rfl
      have r1 := HB.out.1.cell (j := 1) rfl
      refine bodyPost_ret (v := .agg #[.int .i64 0, .slice ao2 k2 cap2]) ?_ rfl ⟨_, rfl, HB.out.2.2, HB.out.2.1⟩
      simp [results, Try.results6, go_sem, r0, r1]
  · have E : Hid (c = d ∧ d ≠ 0) := by refine ⟨?_, hz⟩; rw [HC.out]; unfold Nt.nbcode; rw [← HD.out, if_pos hz]
    obtain ⟨rfl, _⟩ := E.out
    have hcb : (c != 0) = true := by simpa using hz
    have HB : Hid (Blk ((w1.setCell ⟨w.heap.size + 1, 0, none⟩ (.int .i64 c)).setCell ⟨w.heap.size + 1, 1, none⟩ (.slice none 0 0)) (w.heap.size + 1) #[.int .i64 c, .slice none 0 0] 28 ∧ Below w.heap.size w ((w1.setCell ⟨w.heap.size + 1, 0, none⟩ (.int .i64 c)).setCell ⟨w.heap.size + 1, 1, none⟩ (.slice none 0 0))) :=
      ⟨((BX.out.2.1.old H1.out).set 0 _ rfl).set 1 _ rfl, ((BX.out.2.2.trans (H1.out.mono (by omega))).setCell (by simp) _).setCell (by simp) _⟩
    clear hz
    go_wp2_with fail
    have r0 := HB.out.1.cell (j := 0) rfl
    have r1 := HB.out.1.cell (j := 1) rfl
    refine bodyPost_ret (v := .agg #[.int .i64 c, .slice none 0 0]) ?_ rfl ⟨_, rfl, Or.inl ⟨E.out.2, rfl⟩, HB.out.2⟩
    simp [results, Try.results6, go_sem, r0, r1]
set_option maxRecDepth 20000 in
set_option maxHeartbeats 1600000 in
theorem iNei_any {w : World} {ao : Option Addr} {nf cp : Nat} {nodes slots v c : Int} {F : Nat → Fb} (hc : c = Nt.nbcode nodes slots nf F v) (h : Rf w (.slice ao nf cp) nf F) (hf : nf ≤ 1048576) (hcp : nf ≤ cp) :
    Calls Try.prog 8 #[.agg #[.int .i64 nodes, .int .i64 slots, .slice ao nf cp], .int .i64 v] w fun e w' => ∃ l, e = .returned (.agg #[.int .i64 c, l]) ∧ OwnN w.heap.size w'.heap.size w' c l (Nt.near F v nf) ∧ Below w.heap.size w w' := by
  obtain ⟨X, hX⟩ : ∃ X, X = (w.alloc (.cells #[.int .i64 nodes, .int .i64 slots, .slice ao nf cp] 32)).alloc (.cells #[.int .i64 0, .slice none 0 0] 28) := ⟨_, rfl⟩
  have BX : Hid (Blk X w.heap.size #[.int .i64 nodes, .int .i64 slots, .slice ao nf cp] 32 ∧ Blk X (w.heap.size + 1) #[.int .i64 0, .slice none 0 0] 28 ∧ Below w.heap.size w X) := by
    rw [hX]
    exact ⟨(Blk.new rfl).alloc _, Blk.new (by simp), ((Below.refl _ _).alloc (Nat.le_refl _) _).alloc (by simp) _⟩
  have hXz : w.heap.size + 1 < X.heap.size := BX.out.2.1.lt
  have H : ∀ W, Below X.heap.size X W → Hid (Rf W (.slice ao nf cp) nf F) := fun W hb => h.later (BX.out.2.2.trans (hb.mono (by omega)))
  have HC : Hid (c = Nt.nbcode nodes slots nf F v) := hc
  have HL : Hid ((Nt.near F v nf).length ≤ 1048576) := Nat.le_trans (Nt.near_len nf) hf
  clear h hc
  have x0 := BX.out.2.1.cell (j := 0) rfl
  have x1 := BX.out.2.1.cell (j := 1) rfl
  have y0 := BX.out.1.cell (j := 0) rfl
  have y1 := BX.out.1.cell (j := 1) rfl
  have y2 := BX.out.1.cell (j := 2) rfl
  go_enter Try.func8, Try.ntmps8
  go_wp2_with fail
  rw [← hX]
  clear hX
  go_wp2_with fail
  refine (iNf_any (H _ (Below.refl _ _)).out hcp hf).mono ?_
  rintro e w1 ⟨rfl, hb1⟩
  have H1 : Hid (Below X.heap.size X w1) := hb1
  clear hb1 x0 x1 y0 y1 y2
  have y0 := (BX.out.1.old H1.out).cell (j := 0) rfl
  have y1 := (BX.out.1.old H1.out).cell (j := 1) rfl
  have y2 := (BX.out.1.old H1.out).cell (j := 2) rfl
  have x0 := (BX.out.2.1.old H1.out).cell (j := 0) rfl
  have x1 := (BX.out.2.1.old H1.out).cell (j := 1) rfl
  have fz := (BX.out.2.1.old H1.out).frozen
  obtain ⟨d, hd⟩ : ∃ d, d = Nt.nfault nodes slots nf F := ⟨_, rfl⟩
  have HD : Hid (d = Nt.nfault nodes slots nf F) := hd
  rw [← hd]
  clear hd
  by_cases hz : d = 0
  · subst hz
    go_wp2_with fail
    refine (iNode_any _ _ _ _ _ _ _).mono ?_
    rintro e w2 ⟨rfl, hb2⟩
    have H2 : Hid (Below X.heap.size X w2) := box_step H1.out hb2 (Nat.le_refl _)
    clear hb2 x0 x1 y0 y1 y2 fz
    have y0 := (BX.out.1.old H2.out).cell (j := 0) rfl
    have y1 := (BX.out.1.old H2.out).cell (j := 1) rfl
    have y2 := (BX.out.1.old H2.out).cell (j := 2) rfl
    have x0 := (BX.out.2.1.old H2.out).cell (j := 0) rfl
    have x1 := (BX.out.2.1.old H2.out).cell (j := 1) rfl
    have fz := (BX.out.2.1.old H2.out).frozen
    obtain ⟨q, hq⟩ : ∃ q, q = Nt.isN nodes v := ⟨_, rfl⟩
    have HQ : Hid (q = Nt.isN nodes v) := hq
    rw [← hq]
    clear hq
    cases q
    · have E : Hid (c = 1) := by show c = 1; rw [HC.out]; unfold Nt.nbcode; rw [if_neg (by rw [← HD.out]; simp), ← HQ.out]; rfl
      obtain rfl := E.out
      go_wp2_with fail
      refine bodyPost_ret (v := .agg #[.int .i64 1, .slice none 0 0]) ?_ rfl ⟨_, rfl, Or.inl ⟨by omega, rfl⟩, (BX.out.2.2.trans ((H2.out).mono (by omega))).setCell (by simp) _ |>.setCell (by simp) _⟩
      simp [results, Try.results8, go_sem, x0, x1]
    · have E : Hid (c = 0) := by show c = 0; rw [HC.out]; unfold Nt.nbcode; rw [if_neg (by rw [← HD.out]; simp), ← HQ.out]; rfl
      obtain rfl := E.out
      go_wp2_with fail
      refine (nb_any v 0 (H _ H2.out).out hf (Nat.zero_le _)).mono ?_
      rintro e w3 ⟨rfl, hb3⟩
      have H3 : Hid (Below X.heap.size X w3) := box_step H2.out hb3 (Nat.le_refl _)
      obtain ⟨p0, hp0⟩ : ∃ p, p = Nt.nx F v nf 0 := ⟨_, rfl⟩
      have HP0 : Hid (p0 ≤ nf ∧ Nt.near F v p0 = [] ∧ (p0 < nf → 0 ≤ Nt.oth (F p0) v)) := by rw [hp0]; exact ⟨Nt.nx_le (Nat.zero_le _), by rw [Nt.near_nx]; rfl, fun h => Nt.nx_is (Nat.zero_le _) h⟩
      rw [← hp0]
      clear hp0 hb3 x0 x1 y0 y1 y2 fz
      go_wp2_with fail
      go_loopw [6, 7, 8] (fun s6 s7 s8 wr => ∃ (p kt : Nat) (dc : Bool), s7 = .pointer (some ⟨kt, 0, none⟩) ∧ s8 = .bool dc ∧ Hid (p ≤ nf ∧ dc = decide (p < nf) ∧ (p < nf → 0 ≤ Nt.oth (F p) v) ∧ wr.ownsRow X.heap.size 62 2 s6 (Nt.near F v p).length (fl (Nt.near F v p)) ∧ Blk wr kt #[.int .i64 (Nt.nbN F v nf p), .int .i64 (Nt.nbF nf p)] 62 ∧ X.heap.size ≤ kt ∧ (∀ g, s6.ownBlock = some g → g ≠ kt) ∧ Below X.heap.size X wr)) (fun _ s7 s8 wr => mnx nf s7 s8 wr)
      case atStart =>
        refine ⟨p0, w3.heap.size, decide (p0 < nf), rfl, rfl, HP0.out.1, rfl, HP0.out.2.2, ?_, ?_, H3.out.size, ?_, ?_⟩
        · rw [HP0.out.2.1]
          exact ownsV_nil _ _ _ _
        · exact Blk.new rfl
        · intro g hg
          simp [Value.ownBlock] at hg
        · exact H3.out.alloc H3.out.size _
      case round =>
        obtain ⟨p, kt, dc, rfl, rfl, HG⟩ := hrel
        by_cases hp : p < nf
        · obtain rfl : dc = true := by rw [HG.out.2.1]; simpa using hp
          obtain ⟨o, ho⟩ : ∃ o, o = Nt.oth (F p) v := ⟨_, rfl⟩
          have HO : Hid (o = Nt.oth (F p) v ∧ Nt.near F v (p + 1) = Nt.near F v p ++ [(o, (p : Int))]) := ⟨ho, by rw [Nt.near_hit (HG.out.2.2.1 hp), ho]⟩
          have BK : Hid (Blk wr kt #[.int .i64 o, .int .i64 p] 62) := by
            have h := HG.out.2.2.2.2.1
            rw [Nt.nbN_is hp, Nt.nbF_is hp, ← ho] at h
            exact h
          have HW : Hid (wr.ownsRow X.heap.size 62 2 u6 (Nt.near F v p).length (fl (Nt.near F v p)) ∧ X.heap.size ≤ kt ∧ (∀ g, u6.ownBlock = some g → g ≠ kt) ∧ Below X.heap.size X wr) := ⟨HG.out.2.2.2.1, HG.out.2.2.2.2.2⟩
          have hws : X.heap.size ≤ wr.heap.size := HW.out.2.2.2.size
          have hcI : (Nt.near F v p).length ≤ 1000000000 := by have := Nt.near_len (F := F) (v := v) p; omega
          have hpI : (p : Int) < nf := by omega
          have k0 := BK.out.cell (j := 0) (v := .int .i64 o) rfl
          have k1 := BK.out.cell (j := 1) (v := .int .i64 p) rfl
          have kl := BK.out.lt
          have HM0 : Hid (mnx nf (.pointer (some ⟨kt, 0, none⟩)) (.bool true) wr = nf + 1 - p) := by
            show mnx nf (.pointer (some ⟨kt, 0, none⟩)) (.bool true) wr = nf + 1 - p
            unfold mnx
            simp [k1, intOf]
          clear ho HG
          go_wp2_with (first | (at_builtin; go_loud (refine pushV rfl (.tmp 36) (.tmp 38) 26 rfl 62 (.agg #[.int .i64 0, .int .i64 0]) 2 16 Try.underlying26 info62 rfl (by decide) (by decide) _ [.int .i64 o, .int .i64 p] rfl (by simp [Value.oneCell']) X.heap.size u6 (Nt.near F v p).length (fl (Nt.near F v p)) (by simp [Act.eval]) HW.out.1 1 (by simp [Act.eval]) hcI hws ?_; intro v1 x3 own3 grow3 nn3; have BK3 : Hid (Blk x3 kt #[.int .i64 o, .int .i64 p] 62) := (BK.out.alloc _).grown grow3 HW.out.2.2.1; have k0 := BK3.out.cell (j := 0) (v := .int .i64 o) rfl; have k1 := BK3.out.cell (j := 1) (v := .int .i64 p) rfl; have kl := BK3.out.lt; clear BK; have HX3 : Hid (x3.ownsRow X.heap.size 62 2 v1 (Nt.near F v (p + 1)).length (fl (Nt.near F v (p + 1))) ∧ Below X.heap.size X x3 ∧ ∀ g, v1.ownBlock = some g → g < x3.heap.size) := ⟨by rw [HO.out.2, fl_snoc, List.length_append]; exact own3, pushV_below HW.out.1 grow3 HW.out.2.2.2 hws, fun g hg => (own3.lt g hg).2⟩; have y0 := (BX.out.1.old HX3.out.2.1).cell (j := 0) (v := .int .i64 nodes) rfl; have y1 := (BX.out.1.old HX3.out.2.1).cell (j := 1) (v := .int .i64 slots) rfl; have y2 := (BX.out.1.old HX3.out.2.1).cell (j := 2) (v := .slice ao nf cp) rfl; have yl := (BX.out.1.old HX3.out.2.1).lt; clear own3 grow3 nn3)))
          obtain ⟨x4, hx4⟩ : ∃ W, W = x3.alloc (.cells #[.int .i64 o, .int .i64 p] 62) := ⟨_, rfl⟩
          have H4 : Hid (Below x3.heap.size x3 x4 ∧ Blk x4 x3.heap.size #[.int .i64 o, .int .i64 p] 62) := by rw [hx4]; exact ⟨(Below.refl _ _).alloc (Nat.le_refl _) _, Blk.new rfl⟩
          have hs4 : x3.heap.size < x4.heap.size := H4.out.2.lt
          have hb4 : Below X.heap.size X x4 := box_step HX3.out.2.1 H4.out.1 (Nat.le_refl _)
          rw [← hx4]
          clear hx4 y0 y1 y2 yl k0 k1 kl
          have hnb := nb_any (nodes := nodes) (slots := slots) v (p + 1) (H x4 hb4).out hf hp
          rw [show ((p + 1 : Nat) : Int) = (p : Int) + 1 from by simp] at hnb
          refine hnb.mono ?_
          rintro e x5 ⟨rfl, hb5⟩
          obtain ⟨p2, hp2⟩ : ∃ q, q = Nt.nx F v nf (p + 1) := ⟨_, rfl⟩
          have HP2 : Hid (p2 ≤ nf ∧ p < p2 ∧ Nt.near F v p2 = Nt.near F v (p + 1) ∧ (p2 < nf → 0 ≤ Nt.oth (F p2) v)) := by rw [hp2]; exact ⟨Nt.nx_le hp, Nt.nx_ge, Nt.near_nx, fun h => Nt.nx_is hp h⟩
          rw [← hp2]
          obtain ⟨o2, ho2⟩ : ∃ o, o = Nt.nbN F v nf p2 := ⟨_, rfl⟩
          obtain ⟨f2, hf2⟩ : ∃ o, o = Nt.nbF nf p2 := ⟨_, rfl⟩
          obtain ⟨d2, hd2⟩ : ∃ o, o = decide (p2 < nf) := ⟨_, rfl⟩
          have H5 : Hid (Below x4.heap.size x4 x5 ∧ o2 = Nt.nbN F v nf p2 ∧ f2 = Nt.nbF nf p2 ∧ d2 = decide (p2 < nf)) := ⟨hb5, ho2, hf2, hd2⟩
          rw [← ho2, ← hf2, ← hd2]
          have B5 : Hid (Blk x5 x3.heap.size #[.int .i64 o, .int .i64 p] 62) := H4.out.2.old hb5
          have q0 := B5.out.cell (j := 0) (v := .int .i64 o) rfl
          have q1 := B5.out.cell (j := 1) (v := .int .i64 p) rfl
          have qf := B5.out.frozen
          clear hnb hp2 ho2 hf2 hd2 hb4 hb5
          obtain ⟨x6, hx6⟩ : ∃ W, W = (x5.setCell ⟨x3.heap.size, 0, none⟩ (.int .i64 o2)).setCell ⟨x3.heap.size, 1, none⟩ (.int .i64 f2) := ⟨_, rfl⟩
          have H6 : Hid (Blk x6 x3.heap.size #[.int .i64 o2, .int .i64 f2] 62 ∧ Below x3.heap.size x3 x6) := by
            rw [hx6]
            exact ⟨(B5.out.set 0 _ rfl).set 1 _ rfl, ((H4.out.1.trans (H5.out.1.mono (by omega))).setCell (Nat.le_refl _) _).setCell (Nat.le_refl _) _⟩
          go_wp2_with fail
          rw [← hx6]
          have HM1 : Hid (mnx nf (.pointer (some ⟨x3.heap.size, 0, none⟩)) (.bool d2) x6 ≤ nf - p) := by
            show mnx nf (.pointer (some ⟨x3.heap.size, 0, none⟩)) (.bool d2) x6 ≤ nf - p
            unfold mnx
            have h1 := H6.out.1.cell (j := 1) (v := .int .i64 f2) rfl
            cases d2 with
            | false => simp
            | true =>
              have hlt : p2 < nf := of_decide_eq_true H5.out.2.2.2.symm
              have hf : f2 = (p2 : Int) := by rw [H5.out.2.2.1, Nt.nbF_is hlt]
              have := HP2.out.2.1
              simp [h1, intOf, hf]
              omega
          clear hx6 q0 q1 qf
          go_roundw
          case rel =>
            refine ⟨p2, x3.heap.size, d2, rfl, rfl, HP2.out.1, H5.out.2.2.2, HP2.out.2.2.2, ?_, ?_, HX3.out.2.1.size, ?_, box_step HX3.out.2.1 H6.out.2 (Nat.le_refl _)⟩
            · rw [HP2.out.2.2.1]
              exact ownsV_later HX3.out.1 H6.out.2
            · rw [← H5.out.2.1, ← H5.out.2.2.1]
              exact H6.out.1
            · intro g hg
              have := HX3.out.2.2 g hg
              omega
          case measure =>
            have a := HM0.out
            have b := HM1.out
            refine Nat.lt_of_le_of_lt b ?_
            show _ < mnx nf (.pointer (some ⟨kt, 0, none⟩)) (.bool true) wr
            rw [a]
            omega
        · obtain rfl : dc = false := by rw [HG.out.2.1]; simpa using hp
          obtain rfl : p = nf := by have := HG.out.1; omega
          have ho := HG.out.2.2.2.1
          have H3' : Hid (Below X.heap.size X wr) := HG.out.2.2.2.2.2.2.2
          have HGG : Hid (∀ W, (∀ g, X.heap.size ≤ g → W.heap[g]? = wr.heap[g]?) → wr.heap.size ≤ W.heap.size → OwnN w.heap.size W.heap.size W 0 u6 (Nt.near F v p)) := by
            intro W hW hs
            refine Or.inr ⟨rfl, ?_⟩
            rcases owned_in ho with h | ⟨g, cap, e, h1, h2, h3⟩
            · exact Or.inl h
            · exact Or.inr ⟨g, cap, e, by omega, by omega, h3.of_block (hW g h1)⟩
          obtain ⟨ao2, k2, cap2, rfl⟩ := (HGG.out wr (fun _ _ => rfl) (Nat.le_refl _)).rd.shape
          clear ho HG
          have x0 := (BX.out.2.1.old H3'.out).cell (j := 0) (v := .int .i64 0) rfl
          have x1 := (BX.out.2.1.old H3'.out).cell (j := 1) (v := .slice none 0 0) rfl
          have fz := (BX.out.2.1.old H3'.out).frozen
          have HB : Hid (Blk ((wr.setCell ⟨w.heap.size + 1, 0, none⟩ (.int .i64 0)).setCell ⟨w.heap.size + 1, 1, none⟩ (.slice ao2 k2 cap2)) (w.heap.size + 1) #[.int .i64 0, .slice ao2 k2 cap2] 28 ∧ Below w.heap.size w ((wr.setCell ⟨w.heap.size + 1, 0, none⟩ (.int .i64 0)).setCell ⟨w.heap.size + 1, 1, none⟩ (.slice ao2 k2 cap2)) ∧ OwnN w.heap.size ((wr.setCell ⟨w.heap.size + 1, 0, none⟩ (.int .i64 0)).setCell ⟨w.heap.size + 1, 1, none⟩ (.slice ao2 k2 cap2)).heap.size ((wr.setCell ⟨w.heap.size + 1, 0, none⟩ (.int .i64 0)).setCell ⟨w.heap.size + 1, 1, none⟩ (.slice ao2 k2 cap2)) 0 (.slice ao2 k2 cap2) (Nt.near F v p)) := by
            refine ⟨((BX.out.2.1.old H3'.out).set 0 _ rfl).set 1 _ rfl, ((BX.out.2.2.trans (H3'.out.mono (by omega))).setCell (by simp) _).setCell (by simp) _, HGG.out _ (fun g hg => ?_) (by simp)⟩
            rw [Below.heap_setCell _ _ _ _ (by simp; omega), Below.heap_setCell _ _ _ _ (by simp; omega)]
          clear HGG
          go_wp2_with fail
          have r0 := HB.out.1.cell (j := 0) (v := .int .i64 0) rfl
          have r1 := HB.out.1.cell (j := 1) (v := .slice ao2 k2 cap2) rfl
          refine bodyPost_ret (v := .agg #[.int .i64 0, .slice ao2 k2 cap2]) ?_ rfl ⟨_, rfl, HB.out.2.2, HB.out.2.1⟩
          simp [results, Try.results8, go_sem, r0, r1]
  · have E : Hid (c = d ∧ d ≠ 0) := by refine ⟨?_, hz⟩; rw [HC.out]; unfold Nt.nbcode; rw [← HD.out, if_pos hz]
    obtain ⟨rfl, _⟩ := E.out
    have hcb : (c != 0) = true := by simpa using hz
    have HB : Hid (Blk ((w1.setCell ⟨w.heap.size + 1, 0, none⟩ (.int .i64 c)).setCell ⟨w.heap.size + 1, 1, none⟩ (.slice none 0 0)) (w.heap.size + 1) #[.int .i64 c, .slice none 0 0] 28 ∧ Below w.heap.size w ((w1.setCell ⟨w.heap.size + 1, 0, none⟩ (.int .i64 c)).setCell ⟨w.heap.size + 1, 1, none⟩ (.slice none 0 0))) :=
      ⟨((BX.out.2.1.old H1.out).set 0 _ rfl).set 1 _ rfl, ((BX.out.2.2.trans (H1.out.mono (by omega))).setCell (by simp) _).setCell (by simp) _⟩
    clear hz
    go_wp2_with fail
    have r0 := HB.out.1.cell (j := 0) rfl
    have r1 := HB.out.1.cell (j := 1) rfl
    refine bodyPost_ret (v := .agg #[.int .i64 c, .slice none 0 0]) ?_ rfl ⟨_, rfl, Or.inl ⟨E.out.2, rfl⟩, HB.out.2⟩
    simp [results, Try.results8, go_sem, r0, r1]
theorem sNei_out {w : World} {ao : Option Addr} {nf cp : Nat} {nodes slots v c : Int} {F : Nat → Fb} (hc : c = Nt.nbcode nodes slots nf F v) (h : Rf w (.slice ao nf cp) nf F) (hf : nf ≤ 1048576) :
    Calls Try.prog 6 #[.agg #[.int .i64 nodes, .int .i64 slots, .slice ao nf cp], .int .i64 v] w fun e w' => ∃ l, e = .returned (.agg #[.int .i64 c, l]) ∧ OutN w' c l (Nt.near F v nf) ∧ Below w.heap.size w w' :=
  Calls.mono (sNei_any hc h hf) fun e w' ⟨l, e1, h1, h2⟩ => ⟨l, e1, h1.rd, h2⟩
end Go.Proofs.Ytfpklfpcencimaa
