/- At every length and radii the program's TripOf answers as the specification, in memory of its own that a second call does not reach; nothing that was there is changed. -/
import Derived.Test.YtkkajcdjkfbcgaaTs
import Derived.Test.YtkkajcdjkfbcgaaOpen
import Derived.Handy
import Derived.Deep.RegionHeld3
import Derived.Deep.DeepCutAuto
namespace Go.Proofs.Ytkkajcdjkfbcgaa.LawTripOf
open Go.ChangeShapes Go.WideShapes Go.ChangeAt Go.RowKit Go.Joins
set_option linter.unusedVariables false

/-- From lo up to hi alone something was changed, and behind. -/
structure Within (lo hi : Nat) (w w' : World) : Prop where
  below : Below lo w w'
  above : ∀ k, hi ≤ k → k < w.heap.size → w'.heap[k]? = w.heap[k]?
theorem Blk.under {w w' : World} {b : Nat} {cs : Array Value} {t : TypeId} (h : Blk w b cs t) {a c : Nat} (k : Within a c w w') (hh : b < a ∨ c ≤ b) : Blk w' b cs t := by
  rcases hh with hh | hh
  · exact (k.below.block b hh).trans h
  · exact (k.above b hh h.lt).trans h
def OwP (lo hi : Nat) (w : World) (v : Value) (m : Nat) (F : Nat → Pt) : Prop :=
  (v = .slice none 0 0 ∧ m = 0) ∨ ∃ g cp, v = .slice (some ⟨g, 0, none⟩) m cp ∧ lo ≤ g ∧ g < hi ∧ SegV w g 111 m 3 (fun i j => tcell (F i) j)
theorem OwP.form {lo hi : Nat} {w : World} {v : Value} {m : Nat} {F : Nat → Pt} (h : OwP lo hi w v m F) : ∃ ao cp, v = .slice ao m cp := by
  rcases h with ⟨rfl, rfl⟩ | ⟨g, cp, rfl, _⟩
  · exact ⟨_, _, rfl⟩
  · exact ⟨_, _, rfl⟩
theorem OwP.later {lo hi : Nat} {w w' : World} {v : Value} {m : Nat} {F : Nat → Pt} (h : OwP lo hi w v m F) (b : Below w.heap.size w w') : OwP lo hi w' v m F := by
  rcases h with h | ⟨g, cp, e, h1, h2, h3⟩
  · exact Or.inl h
  · exact Or.inr ⟨g, cp, e, h1, h2, h3.below b⟩
theorem OwP.under {lo hi : Nat} {w w' : World} {v : Value} {m : Nat} {F : Nat → Pt} (h : OwP lo hi w v m F) {a c : Nat} (k : Within a c w w') (hh : hi ≤ a ∨ c ≤ lo) : OwP lo hi w' v m F := by
  rcases h with h | ⟨g, cp, e, h1, h2, h3⟩
  · exact Or.inl h
  · refine Or.inr ⟨g, cp, e, h1, h2, h3.of_block ?_⟩
    rcases hh with hh | hh
    · exact k.below.block g (by omega)
    · exact k.above g (by omega) h3.lt
theorem OwP.list {lo hi : Nat} {w : World} {v : Value} {m : Nat} {F : Nat → Pt} (h : OwP lo hi w v m F) : OwL w lo v m F := by
  rcases h with h | ⟨g, cp, e, h1, h2, h3⟩
  · exact Or.inl h
  · exact Or.inr ⟨g, cp, e, h1, h3⟩
theorem owp_of {lo : Nat} {w : World} {v : Value} {m : Nat} {F : Nat → Pt} (h : OwL w lo v m F) : OwP lo w.heap.size w v m F := by
  rcases h with h | ⟨g, cp, e, h1, h3⟩
  · exact Or.inl h
  · exact Or.inr ⟨g, cp, e, h1, h3.lt, h3⟩
theorem markP {lo hi : Nat} {w : World} {v : Value} {m : Nat} {F : Nat → Pt} (c : Int) (h : OwP lo hi w v m F) (hl : lo ≤ w.heap.size) (hm : m ≤ 1000) : Calls Try.prog 40 #[.agg #[.int .i64 c, v], .int .i64 1] w fun e w' => e = .returned (.int .i64 (nK 1 m)) ∧ OwP lo hi w' v m (fun i => mpt (nK 1 i)) ∧ Within lo hi w w' ∧ w.heap.size ≤ w'.heap.size := by
  refine (markList c h.list hl hm).mono ?_
  rintro e w' ⟨rfl, o, b, s⟩
  refine ⟨rfl, ?_, ⟨b, fun k hk hs => s k hs ?_⟩, b.size⟩
  · rcases h with ⟨e1, e2⟩ | ⟨g, cp, e1, h1, h2, h3⟩
    · exact Or.inl ⟨e1, e2⟩
    · rcases o with ⟨q1, q2⟩ | ⟨g', cp', q1, q2, q3⟩
      · exact Or.inl ⟨q1, q2⟩
      · rw [e1] at q1
        cases q1
        exact Or.inr ⟨_, _, e1, h1, h2, q3⟩
  · intro g n d e
    rcases h with ⟨e1, e2⟩ | ⟨g', cp, e1, h1, h2, h3⟩
    · rw [e1] at e; cases e
    · rw [e1] at e; cases e; omega
def CB (W : World) (k : Nat) (c v : Value) : Prop := k < W.heap.size ∧ W.cell? ⟨k, 0, none⟩ = some c ∧ W.cell? ⟨k, 1, none⟩ = some v
theorem CB.later {W W' : World} {k : Nat} {c v : Value} (h : CB W k c v) (b : Below W.heap.size W W') : CB W' k c v := ⟨Nat.lt_of_lt_of_le h.1 b.size, (b.cell (p := ⟨k, 0, none⟩) h.1).trans h.2.1, (b.cell (p := ⟨k, 1, none⟩) h.1).trans h.2.2⟩
theorem CB.under {W W' : World} {k : Nat} {c v : Value} (h : CB W k c v) {a d : Nat} (b : Within a d W W') (hh : k < a ∨ d ≤ k) : CB W' k c v := by
  have e : W'.heap[k]? = W.heap[k]? := by
    rcases hh with hh | hh
    · exact b.below.block k hh
    · exact b.above k hh h.1
  exact ⟨Nat.lt_of_lt_of_le h.1 b.below.size, (World.cell?_of_block (w := W) (a := ⟨k, 0, none⟩) e).trans h.2.1, (World.cell?_of_block (w := W) (a := ⟨k, 1, none⟩) e).trans h.2.2⟩
theorem set2 {lo hi : Nat} {w : World} {v a b : Value} {n k : Nat} {f : Nat → Pt} (h : OwP lo hi w v n f) (hk : k < lo ∨ hi ≤ k) : OwP lo hi ((w.setCell ⟨k, 0, none⟩ a).setCell ⟨k, 1, none⟩ b) v n f := by
  rcases h with h | ⟨g, cap, rfl, h1, h2, h3⟩
  · exact Or.inl h
  · exact Or.inr ⟨g, cap, rfl, h1, h2, (h3.setOther (by omega) _).setOther (by omega) _⟩
def TY (fn : FuncId) (args : Array Value) (w : World) (c : Int) (n : Nat) (F : Nat → Pt) : Prop :=
  Calls Try.prog fn args w fun e w' => ∃ v lo hi, e = .returned (.agg #[.int .i64 c, v]) ∧ w.heap.size ≤ lo ∧ lo ≤ hi ∧ hi ≤ w'.heap.size ∧ OwP lo hi w' v n F ∧ Below w.heap.size w w'
theorem TX.weak {fn : FuncId} {args : Array Value} {w : World} {c : Int} {n : Nat} {F : Nat → Pt} (h : TX fn args w c n F) : TY fn args w c n F := by
  refine Calls.mono h ?_
  rintro e w' ⟨v, rfl, ov, b⟩
  exact ⟨v, _, _, rfl, Nat.le_refl _, b.size, Nat.le_refl _, owp_of ov, b⟩
set_option maxRecDepth 100000 in
set_option maxHeartbeats 12800000 in
theorem walk (L A B : Q) (w : World) :
    Calls Try.prog 9 #[.agg #[.int .i64 L.n, .int .i64 L.d], .agg #[.int .i64 A.n, .int .i64 A.d], .agg #[.int .i64 B.n, .int .i64 B.d]] w fun e w' => e = .returned (.bool true) ∧ Below w.heap.size w w' := by
  obtain ⟨c, N, F, hN, SC0, IC0⟩ := trip_both L A B
  have SC : Hid (∀ W, TX 22 #[.agg #[.int .i64 L.n, .int .i64 L.d], .agg #[.int .i64 A.n, .int .i64 A.d], .agg #[.int .i64 B.n, .int .i64 B.d]] W c N F) := SC0
  have IC : Hid (∀ W, TX 38 #[.agg #[.int .i64 L.n, .int .i64 L.d], .agg #[.int .i64 A.n, .int .i64 A.d], .agg #[.int .i64 B.n, .int .i64 B.d]] W c N F) := IC0
  clear SC0 IC0
  have hN2 : N ≤ 1000 := by omega
  obtain ⟨M, hM⟩ : ∃ M : Int, M = nK 1 N := ⟨_, rfl⟩
  have hM0 : ¬ M < 0 := by rw [hM]; unfold nK; omega
  have hM1 : M ≤ 10000 := by rw [hM]; unfold nK; omega
  have MK : Hid (∀ (lo hi : Nat) (W : World) (v : Value), lo ≤ W.heap.size → OwP lo hi W v N F → Calls Try.prog 40 #[.agg #[.int .i64 c, v], .int .i64 1] W fun e w' => e = .returned (.int .i64 M) ∧ OwP lo hi w' v N (fun i => mpt (nK 1 i)) ∧ Within lo hi W w' ∧ W.heap.size ≤ w'.heap.size) := fun lo hi W v hl h => by rw [hM]; exact markP c h hl hN2
  have HD : Hid (∀ (lo hi : Nat) (W : World) (v : Value), OwP lo hi W v N (fun i => mpt (nK 1 i)) → Calls Try.prog 41 #[.agg #[.int .i64 c, v], .int .i64 1] W fun e w' => e = .returned (.int .i64 M) ∧ Below W.heap.size W w') := fun lo hi W v h => by rw [hM]; exact heldList c h.list hN2
  clear hM
  go_enter Try.func9, Try.ntmps9
  go_upto_region 1 with fail
  obtain ⟨wz, hwz⟩ : ∃ W, W = ((w.alloc (.cells #[.int .i64 L.n, .int .i64 L.d] 66)).alloc (.cells #[.int .i64 A.n, .int .i64 A.d] 66)).alloc (.cells #[.int .i64 B.n, .int .i64 B.d] 66) := ⟨_, rfl⟩
  have HL : Hid (Blk wz w.heap.size #[.int .i64 L.n, .int .i64 L.d] 66) := by show Blk _ _ _ _; rw [hwz]; exact ((Blk.new rfl).alloc _).alloc _
  have HA : Hid (Blk wz (w.heap.size + 1) #[.int .i64 A.n, .int .i64 A.d] 66) := by show Blk _ _ _ _; rw [hwz]; exact (Blk.new (by simp)).alloc _
  have HB : Hid (Blk wz (w.heap.size + 1 + 1) #[.int .i64 B.n, .int .i64 B.d] 66) := by show Blk _ _ _ _; rw [hwz]; exact Blk.new (by simp)
  have HO : Hid (Below w.heap.size w wz) := by show Below _ _ _; rw [hwz]; go_grown
  have Y0 : Hid (w.heap.size + 3 ≤ wz.heap.size) := by show _ ≤ _; rw [hwz]; simp
  rw [← hwz]
  clear hwz
  have Z0 : Hid (w.heap.size ≤ wz.heap.size) := HO.out.size
  have kkL0 : ∀ W, Below wz.heap.size wz W → W.cell? ⟨w.heap.size, 0, none⟩ = some (.int .i64 L.n) := fun _ h => (Blk.old HL.out h).cell (j := 0) rfl
  have kkL1 : ∀ W, Below wz.heap.size wz W → W.cell? ⟨w.heap.size, 1, none⟩ = some (.int .i64 L.d) := fun _ h => (Blk.old HL.out h).cell (j := 1) rfl
  have kkA0 : ∀ W, Below wz.heap.size wz W → W.cell? ⟨w.heap.size + 1, 0, none⟩ = some (.int .i64 A.n) := fun _ h => (Blk.old HA.out h).cell (j := 0) rfl
  have kkA1 : ∀ W, Below wz.heap.size wz W → W.cell? ⟨w.heap.size + 1, 1, none⟩ = some (.int .i64 A.d) := fun _ h => (Blk.old HA.out h).cell (j := 1) rfl
  have kkB0 : ∀ W, Below wz.heap.size wz W → W.cell? ⟨w.heap.size + 1 + 1, 0, none⟩ = some (.int .i64 B.n) := fun _ h => (Blk.old HB.out h).cell (j := 0) rfl
  have kkB1 : ∀ W, Below wz.heap.size wz W → W.cell? ⟨w.heap.size + 1 + 1, 1, none⟩ = some (.int .i64 B.d) := fun _ h => (Blk.old HB.out h).cell (j := 1) rfl
  have hR0 : Below wz.heap.size wz wz := Below.refl _ _
  go_wp2_with fail
  go_cut [7] from 12 to 18 (fun p wx => ∃ (kx : Nat) (v : Value) (lo hi : Nat), p = .pointer (some ⟨kx, 0, none⟩) ∧ wz.heap.size ≤ kx ∧ kx < wx.heap.size ∧ wz.heap.size ≤ lo ∧ lo ≤ hi ∧ hi ≤ wx.heap.size ∧ Below wz.heap.size wz wx ∧ wx.cell? ⟨kx, 0, none⟩ = some (.int .i64 c) ∧ wx.cell? ⟨kx, 1, none⟩ = some v ∧ OwP lo hi wx v N F ∧ (kx < lo ∨ hi ≤ kx))
  case first =>
    go_region_held3 (fun W => Below wz.heap.size wz W) (go_grown) (first
      | (go_at_call_of 36 L.n; refine (toFrac_any L.n L.d _).mono ?_; rintro e wb ⟨rfl, bb⟩; have zb := bb.size; (try simp at zb); have hRb : Below wz.heap.size wz wb := (by refine box_step ?_ bb (by go_size); go_grown); (first | (have hZ := box_step hZ bb (Nat.le_refl _)) | (have hZ := bb)); obtain ⟨ho1, hf1, hz1⟩ := olds' hZ)
      | (go_at_call_of 36 A.n; refine (toFrac_any A.n A.d _).mono ?_; rintro e wb ⟨rfl, bb⟩; have zb := bb.size; (try simp at zb); have hRb : Below wz.heap.size wz wb := (by refine box_step ?_ bb (by go_size); go_grown); (first | (have hZ := box_step hZ bb (Nat.le_refl _)) | (have hZ := bb)); obtain ⟨ho1, hf1, hz1⟩ := olds' hZ)
      | (go_at_call_of 36 B.n; refine (toFrac_any B.n B.d _).mono ?_; rintro e wb ⟨rfl, bb⟩; have zb := bb.size; (try simp at zb); have hRb : Below wz.heap.size wz wb := (by refine box_step ?_ bb (by go_size); go_grown); (first | (have hZ := box_step hZ bb (Nat.le_refl _)) | (have hZ := bb)); obtain ⟨ho1, hf1, hz1⟩ := olds' hZ)
      | (go_at_call 22; refine (TX.weak (SC.out _)).mono ?_; rintro e wd ⟨v, lo, hi, rfl, hlo, hlh, hhi, ov, bd⟩; obtain ⟨vo, vc, rfl⟩ := ov.form; have zd := bd.size; (try simp at zd); (try simp at hlo); have hRd : Below wz.heap.size wz wd := (by refine box_step ?_ bd (by go_size); go_grown); have OV : Hid (OwP lo hi wd (.slice vo N vc) N F) := ov; clear ov; (first | (have hZ := box_step hZ bd (Nat.le_refl _)) | (have hZ := bd)); obtain ⟨ho1, hf1, hz1⟩ := olds' hZ))
    all_goals
      go_wp2_with fail
      go_meet
      case rel =>
        refine ⟨_, .slice vo N vc, lo, hi, rfl, ?_, ?_, ?_, ?_, ?_, ?_, ?_, ?_, ?_, ?_⟩
        · omega
        · simp [World.setCell] <;> omega
        · omega
        · omega
        · simp [World.setCell] <;> omega
        · first | assumption | go_grown
        · first | (go_simp; done) | (simp [*]; done)
        · first | (go_simp; done) | (simp [*]; done)
        · first | exact set2 OV.out (by omega) | exact OV.out.later ((Below.refl _ _).alloc (Nat.le_refl _) _)
        · omega
  case rest =>
    obtain ⟨ks, vs0, los, his, rfl, hk1, hk2, hl1, hl3, hl2, hB, d0, d1, ov, hd⟩ := hcut
    obtain ⟨vso, vsc, rfl⟩ := ov.form
    clear kkL0 kkL1 kkA0 kkA1 kkB0 kkB1 hR0
    obtain ⟨w1, hv⟩ : ∃ v, v = wc := ⟨_, rfl⟩
    subst hv
    replace HL : Hid (Blk w1 w.heap.size #[.int .i64 L.n, .int .i64 L.d] 66) := Blk.old HL.out hB
    replace HA : Hid (Blk w1 (w.heap.size + 1) #[.int .i64 A.n, .int .i64 A.d] 66) := Blk.old HA.out hB
    replace HB : Hid (Blk w1 (w.heap.size + 1 + 1) #[.int .i64 B.n, .int .i64 B.d] 66) := Blk.old HB.out hB
    have Z1 : Hid (wz.heap.size ≤ w1.heap.size) := hB.size
    replace HO : Hid (Below w.heap.size w w1) := HO.out.trans (hB.mono HO.out.size)
    have BS : Hid (CB w1 ks (.int .i64 c) (.slice vso N vsc)) := ⟨hk2, d0, d1⟩
    have OS : Hid (OwP los his w1 (.slice vso N vsc) N F) := ov
    have Ks : Hid (wz.heap.size ≤ ks ∧ ks < w1.heap.size ∧ wz.heap.size ≤ los ∧ los ≤ his ∧ his ≤ w1.heap.size ∧ (ks < los ∨ his ≤ ks)) := ⟨hk1, hk2, hl1, hl3, hl2, hd⟩
    clear hB hk1 hk2 hl1 hl2 hl3 hd d0 d1 ov
    go_upto_region 2 with fail
    have kkL0 : ∀ W, Below w1.heap.size w1 W → W.cell? ⟨w.heap.size, 0, none⟩ = some (.int .i64 L.n) := fun _ h => (Blk.old HL.out h).cell (j := 0) rfl
    have kkL1 : ∀ W, Below w1.heap.size w1 W → W.cell? ⟨w.heap.size, 1, none⟩ = some (.int .i64 L.d) := fun _ h => (Blk.old HL.out h).cell (j := 1) rfl
    have kkA0 : ∀ W, Below w1.heap.size w1 W → W.cell? ⟨w.heap.size + 1, 0, none⟩ = some (.int .i64 A.n) := fun _ h => (Blk.old HA.out h).cell (j := 0) rfl
    have kkA1 : ∀ W, Below w1.heap.size w1 W → W.cell? ⟨w.heap.size + 1, 1, none⟩ = some (.int .i64 A.d) := fun _ h => (Blk.old HA.out h).cell (j := 1) rfl
    have kkB0 : ∀ W, Below w1.heap.size w1 W → W.cell? ⟨w.heap.size + 1 + 1, 0, none⟩ = some (.int .i64 B.n) := fun _ h => (Blk.old HB.out h).cell (j := 0) rfl
    have kkB1 : ∀ W, Below w1.heap.size w1 W → W.cell? ⟨w.heap.size + 1 + 1, 1, none⟩ = some (.int .i64 B.d) := fun _ h => (Blk.old HB.out h).cell (j := 1) rfl
    have hR0 : Below w1.heap.size w1 w1 := Below.refl _ _
    go_wp2_with fail
    go_cut [8] from 19 to 25 (fun p wx => ∃ (kx : Nat) (v : Value) (lo hi : Nat), p = .pointer (some ⟨kx, 0, none⟩) ∧ w1.heap.size ≤ kx ∧ kx < wx.heap.size ∧ w1.heap.size ≤ lo ∧ lo ≤ hi ∧ hi ≤ wx.heap.size ∧ Below w1.heap.size w1 wx ∧ wx.cell? ⟨kx, 0, none⟩ = some (.int .i64 c) ∧ wx.cell? ⟨kx, 1, none⟩ = some v ∧ OwP lo hi wx v N F ∧ (kx < lo ∨ hi ≤ kx))
    case first =>
      go_region_held3 (fun W => Below w1.heap.size w1 W) (go_grown) (first
        | (go_at_call_of 36 L.n; refine (toFrac_any L.n L.d _).mono ?_; rintro e wb ⟨rfl, bb⟩; have zb := bb.size; (try simp at zb); have hRb : Below w1.heap.size w1 wb := (by refine box_step ?_ bb (by go_size); go_grown); (first | (have hZ := box_step hZ bb (Nat.le_refl _)) | (have hZ := bb)); obtain ⟨ho1, hf1, hz1⟩ := olds' hZ)
        | (go_at_call_of 36 A.n; refine (toFrac_any A.n A.d _).mono ?_; rintro e wb ⟨rfl, bb⟩; have zb := bb.size; (try simp at zb); have hRb : Below w1.heap.size w1 wb := (by refine box_step ?_ bb (by go_size); go_grown); (first | (have hZ := box_step hZ bb (Nat.le_refl _)) | (have hZ := bb)); obtain ⟨ho1, hf1, hz1⟩ := olds' hZ)
        | (go_at_call_of 36 B.n; refine (toFrac_any B.n B.d _).mono ?_; rintro e wb ⟨rfl, bb⟩; have zb := bb.size; (try simp at zb); have hRb : Below w1.heap.size w1 wb := (by refine box_step ?_ bb (by go_size); go_grown); (first | (have hZ := box_step hZ bb (Nat.le_refl _)) | (have hZ := bb)); obtain ⟨ho1, hf1, hz1⟩ := olds' hZ)
        | (go_at_call 38; refine (TX.weak (IC.out _)).mono ?_; rintro e wd ⟨v, lo, hi, rfl, hlo, hlh, hhi, ov, bd⟩; obtain ⟨vo, vc, rfl⟩ := ov.form; have zd := bd.size; (try simp at zd); (try simp at hlo); have hRd : Below w1.heap.size w1 wd := (by refine box_step ?_ bd (by go_size); go_grown); have OV : Hid (OwP lo hi wd (.slice vo N vc) N F) := ov; clear ov; (first | (have hZ := box_step hZ bd (Nat.le_refl _)) | (have hZ := bd)); obtain ⟨ho1, hf1, hz1⟩ := olds' hZ))
      all_goals
        go_wp2_with fail
        go_meet
        case rel =>
          refine ⟨_, .slice vo N vc, lo, hi, rfl, ?_, ?_, ?_, ?_, ?_, ?_, ?_, ?_, ?_, ?_⟩
          · omega
          · simp [World.setCell] <;> omega
          · omega
          · omega
          · simp [World.setCell] <;> omega
          · first | assumption | go_grown
          · first | (go_simp; done) | (simp [*]; done)
          · first | (go_simp; done) | (simp [*]; done)
          · first | exact set2 OV.out (by omega) | exact OV.out.later ((Below.refl _ _).alloc (Nat.le_refl _) _)
          · omega
    case rest =>
      obtain ⟨kg, vg0, log, hig, rfl, hk1, hk2, hl1, hl3, hl2, hB, d0, d1, ov, hd⟩ := hcut
      obtain ⟨vgo, vgc, rfl⟩ := ov.form
      clear kkL0 kkL1 kkA0 kkA1 kkB0 kkB1 hR0
      obtain ⟨w2, hv⟩ : ∃ v, v = wc := ⟨_, rfl⟩
      subst hv
      replace HL : Hid (Blk w2 w.heap.size #[.int .i64 L.n, .int .i64 L.d] 66) := Blk.old HL.out hB
      replace HA : Hid (Blk w2 (w.heap.size + 1) #[.int .i64 A.n, .int .i64 A.d] 66) := Blk.old HA.out hB
      replace HB : Hid (Blk w2 (w.heap.size + 1 + 1) #[.int .i64 B.n, .int .i64 B.d] 66) := Blk.old HB.out hB
      replace BS : Hid (CB w2 ks (.int .i64 c) (.slice vso N vsc)) := BS.out.later hB
      replace OS : Hid (OwP los his w2 (.slice vso N vsc) N F) := OS.out.later hB
      have Z2 : Hid (w1.heap.size ≤ w2.heap.size) := hB.size
      replace HO : Hid (Below w.heap.size w w2) := HO.out.trans (hB.mono HO.out.size)
      have BG : Hid (CB w2 kg (.int .i64 c) (.slice vgo N vgc)) := ⟨hk2, d0, d1⟩
      have OG : Hid (OwP log hig w2 (.slice vgo N vgc) N F) := ov
      have Kg : Hid (w1.heap.size ≤ kg ∧ kg < w2.heap.size ∧ w1.heap.size ≤ log ∧ log ≤ hig ∧ hig ≤ w2.heap.size ∧ (kg < log ∨ hig ≤ kg)) := ⟨hk1, hk2, hl1, hl3, hl2, hd⟩
      clear hB hk1 hk2 hl1 hl2 hl3 hd d0 d1 ov
      have p0 := BG.out.2.1
      have p1 := BG.out.2.2
      have s0 := BS.out.2.1
      have s1 := BS.out.2.2
      go_wp2_with fail
      refine (eqList c OG.out.list OS.out.list hN2).mono ?_
      rintro e w3 ⟨rfl, b⟩
      clear p0 p1 s0 s1
      replace HL : Hid (Blk w3 w.heap.size #[.int .i64 L.n, .int .i64 L.d] 66) := Blk.old HL.out b
      replace HA : Hid (Blk w3 (w.heap.size + 1) #[.int .i64 A.n, .int .i64 A.d] 66) := Blk.old HA.out b
      replace HB : Hid (Blk w3 (w.heap.size + 1 + 1) #[.int .i64 B.n, .int .i64 B.d] 66) := Blk.old HB.out b
      replace BS : Hid (CB w3 ks (.int .i64 c) (.slice vso N vsc)) := BS.out.later b
      replace OS : Hid (OwP los his w3 (.slice vso N vsc) N F) := OS.out.later b
      replace BG : Hid (CB w3 kg (.int .i64 c) (.slice vgo N vgc)) := BG.out.later b
      replace OG : Hid (OwP log hig w3 (.slice vgo N vgc) N F) := OG.out.later b
      have Z3 : Hid (w2.heap.size ≤ w3.heap.size) := b.size
      replace HO : Hid (Below w.heap.size w w3) := HO.out.trans (b.mono HO.out.size)
      clear b
      have p0 := BG.out.2.1
      have p1 := BG.out.2.2
      go_wp2_with fail
      refine (MK.out _ _ _ _ (by have := Y0.out; have := Z0.out; have := Z1.out; have := Ks.out; have := Z2.out; have := Kg.out; have := Z3.out; omega) OG.out).mono ?_
      rintro e w4 ⟨rfl, sm, wi, zm⟩
      have Z4 : Hid (w3.heap.size ≤ w4.heap.size) := zm
      clear p0 p1
      replace HL : Hid (Blk w4 w.heap.size #[.int .i64 L.n, .int .i64 L.d] 66) := Blk.under HL.out wi (by have := Y0.out; have := Z0.out; have := Z1.out; have := Ks.out; have := Z2.out; have := Kg.out; have := Z3.out; have := Z4.out; omega)
      replace HA : Hid (Blk w4 (w.heap.size + 1) #[.int .i64 A.n, .int .i64 A.d] 66) := Blk.under HA.out wi (by have := Y0.out; have := Z0.out; have := Z1.out; have := Ks.out; have := Z2.out; have := Kg.out; have := Z3.out; have := Z4.out; omega)
      replace HB : Hid (Blk w4 (w.heap.size + 1 + 1) #[.int .i64 B.n, .int .i64 B.d] 66) := Blk.under HB.out wi (by have := Y0.out; have := Z0.out; have := Z1.out; have := Ks.out; have := Z2.out; have := Kg.out; have := Z3.out; have := Z4.out; omega)
      replace BS : Hid (CB w4 ks (.int .i64 c) (.slice vso N vsc)) := BS.out.under wi (by have := Y0.out; have := Z0.out; have := Z1.out; have := Ks.out; have := Z2.out; have := Kg.out; have := Z3.out; have := Z4.out; omega)
      replace OS : Hid (OwP los his w4 (.slice vso N vsc) N F) := OS.out.under wi (by have := Y0.out; have := Z0.out; have := Z1.out; have := Ks.out; have := Z2.out; have := Kg.out; have := Z3.out; have := Z4.out; omega)
      replace BG : Hid (CB w4 kg (.int .i64 c) (.slice vgo N vgc)) := BG.out.under wi (by have := Y0.out; have := Z0.out; have := Z1.out; have := Ks.out; have := Z2.out; have := Kg.out; have := Z3.out; have := Z4.out; omega)
      replace OG : Hid (OwP log hig w4 (.slice vgo N vgc) N (fun i => mpt (nK 1 i))) := sm
      replace HO : Hid (Below w.heap.size w w4) := HO.out.trans (wi.below.mono (by have := Y0.out; have := Z0.out; have := Z1.out; have := Ks.out; have := Z2.out; have := Kg.out; have := Z3.out; have := Z4.out; omega))
      clear wi zm sm
      have p0 := BG.out.2.1
      have p1 := BG.out.2.2
      go_wp2_with fail
      refine (HD.out _ _ _ _ OG.out).mono ?_
      rintro e w5 ⟨rfl, b⟩
      clear p0 p1
      replace HL : Hid (Blk w5 w.heap.size #[.int .i64 L.n, .int .i64 L.d] 66) := Blk.old HL.out b
      replace HA : Hid (Blk w5 (w.heap.size + 1) #[.int .i64 A.n, .int .i64 A.d] 66) := Blk.old HA.out b
      replace HB : Hid (Blk w5 (w.heap.size + 1 + 1) #[.int .i64 B.n, .int .i64 B.d] 66) := Blk.old HB.out b
      replace BS : Hid (CB w5 ks (.int .i64 c) (.slice vso N vsc)) := BS.out.later b
      replace OS : Hid (OwP los his w5 (.slice vso N vsc) N F) := OS.out.later b
      replace BG : Hid (CB w5 kg (.int .i64 c) (.slice vgo N vgc)) := BG.out.later b
      replace OG : Hid (OwP log hig w5 (.slice vgo N vgc) N (fun i => mpt (nK 1 i))) := OG.out.later b
      have Z5 : Hid (w4.heap.size ≤ w5.heap.size) := b.size
      replace HO : Hid (Below w.heap.size w w5) := HO.out.trans (b.mono HO.out.size)
      clear b
      go_upto_region 13 with fail
      have kkL0 : ∀ W, Below w5.heap.size w5 W → W.cell? ⟨w.heap.size, 0, none⟩ = some (.int .i64 L.n) := fun _ h => (Blk.old HL.out h).cell (j := 0) rfl
      have kkL1 : ∀ W, Below w5.heap.size w5 W → W.cell? ⟨w.heap.size, 1, none⟩ = some (.int .i64 L.d) := fun _ h => (Blk.old HL.out h).cell (j := 1) rfl
      have kkA0 : ∀ W, Below w5.heap.size w5 W → W.cell? ⟨w.heap.size + 1, 0, none⟩ = some (.int .i64 A.n) := fun _ h => (Blk.old HA.out h).cell (j := 0) rfl
      have kkA1 : ∀ W, Below w5.heap.size w5 W → W.cell? ⟨w.heap.size + 1, 1, none⟩ = some (.int .i64 A.d) := fun _ h => (Blk.old HA.out h).cell (j := 1) rfl
      have kkB0 : ∀ W, Below w5.heap.size w5 W → W.cell? ⟨w.heap.size + 1 + 1, 0, none⟩ = some (.int .i64 B.n) := fun _ h => (Blk.old HB.out h).cell (j := 0) rfl
      have kkB1 : ∀ W, Below w5.heap.size w5 W → W.cell? ⟨w.heap.size + 1 + 1, 1, none⟩ = some (.int .i64 B.d) := fun _ h => (Blk.old HB.out h).cell (j := 1) rfl
      have hR0 : Below w5.heap.size w5 w5 := Below.refl _ _
      go_wp2_with fail
      go_cut [11] from 41 to 47 (fun p wx => ∃ (kx : Nat) (v : Value) (lo hi : Nat), p = .pointer (some ⟨kx, 0, none⟩) ∧ w5.heap.size ≤ kx ∧ kx < wx.heap.size ∧ w5.heap.size ≤ lo ∧ lo ≤ hi ∧ hi ≤ wx.heap.size ∧ Below w5.heap.size w5 wx ∧ wx.cell? ⟨kx, 0, none⟩ = some (.int .i64 c) ∧ wx.cell? ⟨kx, 1, none⟩ = some v ∧ OwP lo hi wx v N F ∧ (kx < lo ∨ hi ≤ kx))
      case first =>
        go_region_held3 (fun W => Below w5.heap.size w5 W) (go_grown) (first
          | (go_at_call_of 36 L.n; refine (toFrac_any L.n L.d _).mono ?_; rintro e wb ⟨rfl, bb⟩; have zb := bb.size; (try simp at zb); have hRb : Below w5.heap.size w5 wb := (by refine box_step ?_ bb (by go_size); go_grown); (first | (have hZ := box_step hZ bb (Nat.le_refl _)) | (have hZ := bb)); obtain ⟨ho1, hf1, hz1⟩ := olds' hZ)
          | (go_at_call_of 36 A.n; refine (toFrac_any A.n A.d _).mono ?_; rintro e wb ⟨rfl, bb⟩; have zb := bb.size; (try simp at zb); have hRb : Below w5.heap.size w5 wb := (by refine box_step ?_ bb (by go_size); go_grown); (first | (have hZ := box_step hZ bb (Nat.le_refl _)) | (have hZ := bb)); obtain ⟨ho1, hf1, hz1⟩ := olds' hZ)
          | (go_at_call_of 36 B.n; refine (toFrac_any B.n B.d _).mono ?_; rintro e wb ⟨rfl, bb⟩; have zb := bb.size; (try simp at zb); have hRb : Below w5.heap.size w5 wb := (by refine box_step ?_ bb (by go_size); go_grown); (first | (have hZ := box_step hZ bb (Nat.le_refl _)) | (have hZ := bb)); obtain ⟨ho1, hf1, hz1⟩ := olds' hZ)
          | (go_at_call 38; refine (TX.weak (IC.out _)).mono ?_; rintro e wd ⟨v, lo, hi, rfl, hlo, hlh, hhi, ov, bd⟩; obtain ⟨vo, vc, rfl⟩ := ov.form; have zd := bd.size; (try simp at zd); (try simp at hlo); have hRd : Below w5.heap.size w5 wd := (by refine box_step ?_ bd (by go_size); go_grown); have OV : Hid (OwP lo hi wd (.slice vo N vc) N F) := ov; clear ov; (first | (have hZ := box_step hZ bd (Nat.le_refl _)) | (have hZ := bd)); obtain ⟨ho1, hf1, hz1⟩ := olds' hZ))
        all_goals
          go_wp2_with fail
          go_meet
          case rel =>
            refine ⟨_, .slice vo N vc, lo, hi, rfl, ?_, ?_, ?_, ?_, ?_, ?_, ?_, ?_, ?_, ?_⟩
            · omega
            · simp [World.setCell] <;> omega
            · omega
            · omega
            · simp [World.setCell] <;> omega
            · first | assumption | go_grown
            · first | (go_simp; done) | (simp [*]; done)
            · first | (go_simp; done) | (simp [*]; done)
            · first | exact set2 OV.out (by omega) | exact OV.out.later ((Below.refl _ _).alloc (Nat.le_refl _) _)
            · omega
      case rest =>
        obtain ⟨kh, vh0, loh, hih, rfl, hk1, hk2, hl1, hl3, hl2, hB, d0, d1, ov, hd⟩ := hcut
        obtain ⟨vho, vhc, rfl⟩ := ov.form
        clear kkL0 kkL1 kkA0 kkA1 kkB0 kkB1 hR0
        obtain ⟨w6, hv⟩ : ∃ v, v = wc := ⟨_, rfl⟩
        subst hv
        replace HL : Hid (Blk w6 w.heap.size #[.int .i64 L.n, .int .i64 L.d] 66) := Blk.old HL.out hB
        replace HA : Hid (Blk w6 (w.heap.size + 1) #[.int .i64 A.n, .int .i64 A.d] 66) := Blk.old HA.out hB
        replace HB : Hid (Blk w6 (w.heap.size + 1 + 1) #[.int .i64 B.n, .int .i64 B.d] 66) := Blk.old HB.out hB
        replace BS : Hid (CB w6 ks (.int .i64 c) (.slice vso N vsc)) := BS.out.later hB
        replace OS : Hid (OwP los his w6 (.slice vso N vsc) N F) := OS.out.later hB
        replace BG : Hid (CB w6 kg (.int .i64 c) (.slice vgo N vgc)) := BG.out.later hB
        replace OG : Hid (OwP log hig w6 (.slice vgo N vgc) N (fun i => mpt (nK 1 i))) := OG.out.later hB
        have Z6 : Hid (w5.heap.size ≤ w6.heap.size) := hB.size
        replace HO : Hid (Below w.heap.size w w6) := HO.out.trans (hB.mono HO.out.size)
        have BH : Hid (CB w6 kh (.int .i64 c) (.slice vho N vhc)) := ⟨hk2, d0, d1⟩
        have OH : Hid (OwP loh hih w6 (.slice vho N vhc) N F) := ov
        have Kh : Hid (w5.heap.size ≤ kh ∧ kh < w6.heap.size ∧ w5.heap.size ≤ loh ∧ loh ≤ hih ∧ hih ≤ w6.heap.size ∧ (kh < loh ∨ hih ≤ kh)) := ⟨hk1, hk2, hl1, hl3, hl2, hd⟩
        clear hB hk1 hk2 hl1 hl2 hl3 hd d0 d1 ov
        have p0 := BH.out.2.1
        have p1 := BH.out.2.2
        have s0 := BS.out.2.1
        have s1 := BS.out.2.2
        go_wp2_with fail
        refine (eqList c OH.out.list OS.out.list hN2).mono ?_
        rintro e w7 ⟨rfl, b⟩
        clear p0 p1 s0 s1
        replace HL : Hid (Blk w7 w.heap.size #[.int .i64 L.n, .int .i64 L.d] 66) := Blk.old HL.out b
        replace HA : Hid (Blk w7 (w.heap.size + 1) #[.int .i64 A.n, .int .i64 A.d] 66) := Blk.old HA.out b
        replace HB : Hid (Blk w7 (w.heap.size + 1 + 1) #[.int .i64 B.n, .int .i64 B.d] 66) := Blk.old HB.out b
        replace BS : Hid (CB w7 ks (.int .i64 c) (.slice vso N vsc)) := BS.out.later b
        replace OS : Hid (OwP los his w7 (.slice vso N vsc) N F) := OS.out.later b
        replace BG : Hid (CB w7 kg (.int .i64 c) (.slice vgo N vgc)) := BG.out.later b
        replace OG : Hid (OwP log hig w7 (.slice vgo N vgc) N (fun i => mpt (nK 1 i))) := OG.out.later b
        replace BH : Hid (CB w7 kh (.int .i64 c) (.slice vho N vhc)) := BH.out.later b
        replace OH : Hid (OwP loh hih w7 (.slice vho N vhc) N F) := OH.out.later b
        have Z7 : Hid (w6.heap.size ≤ w7.heap.size) := b.size
        replace HO : Hid (Below w.heap.size w w7) := HO.out.trans (b.mono HO.out.size)
        clear b
        have p0 := BG.out.2.1
        have p1 := BG.out.2.2
        go_wp2_with fail
        refine (HD.out _ _ _ _ OG.out).mono ?_
        rintro e w8 ⟨rfl, b⟩
        clear p0 p1
        replace HL : Hid (Blk w8 w.heap.size #[.int .i64 L.n, .int .i64 L.d] 66) := Blk.old HL.out b
        replace HA : Hid (Blk w8 (w.heap.size + 1) #[.int .i64 A.n, .int .i64 A.d] 66) := Blk.old HA.out b
        replace HB : Hid (Blk w8 (w.heap.size + 1 + 1) #[.int .i64 B.n, .int .i64 B.d] 66) := Blk.old HB.out b
        replace BS : Hid (CB w8 ks (.int .i64 c) (.slice vso N vsc)) := BS.out.later b
        replace OS : Hid (OwP los his w8 (.slice vso N vsc) N F) := OS.out.later b
        replace BG : Hid (CB w8 kg (.int .i64 c) (.slice vgo N vgc)) := BG.out.later b
        replace OG : Hid (OwP log hig w8 (.slice vgo N vgc) N (fun i => mpt (nK 1 i))) := OG.out.later b
        replace BH : Hid (CB w8 kh (.int .i64 c) (.slice vho N vhc)) := BH.out.later b
        replace OH : Hid (OwP loh hih w8 (.slice vho N vhc) N F) := OH.out.later b
        have Z8 : Hid (w7.heap.size ≤ w8.heap.size) := b.size
        replace HO : Hid (Below w.heap.size w w8) := HO.out.trans (b.mono HO.out.size)
        clear b
        go_wp2
        go_ret
        exact ⟨rfl, HO.out⟩

set_option maxRecDepth 100000 in
theorem lifted (os : Os) (started : os.Started) (H : Type) (enc : TypeId × Value → H) :
    ReturnsInHanded {} Try.checked os 9 .any (Rows.fnExactTripOfSpec.pre6 enc Try.prog Try.f9 Rows.fnExactTripOfRow.domain false) (Rows.fnExactTripOfSpec.post enc Try.prog Try.f9 false true false false) := by
  refine returnsInHanded_of_change (C := Try.checked) own started (by kernel_rfl) Try.func9
    (ChangeSpec.witness6 (enc := enc) (C := Try.checked) false ⟨#[], #[.agg #[.int .i64 0, .int .i64 0], .agg #[.int .i64 0, .int .i64 0], .agg #[.int .i64 0, .int .i64 0]], []⟩ 8 (by kernel_rfl) (by kernel_rfl) (by kernel_rfl) (by kernel_rfl)) ?_
  intro W base args ds gs before hval0 hW hcnd _
  have hval : ∀ (j : Nat) t v, Try.f9.params[j]? = some t → args[j]? = some v → Value.okWide Try.prog W .any base t v := hval0
  have hW' := hW
  obtain ⟨p, q, hA0, hV, rfl, hfz, hnd⟩ := hW
  have hA : DataW.TrodAll enc Try.prog W 0 (fun _ => true) true Try.f9.params.toList args.toList ds p := hA0
  rw [Try.params9] at hA hval
  obtain ⟨v0, vs0, d0, ds0, p0, q0, hargs, rfl, rfl, h0, r0⟩ := trodAll_cons hA
  obtain ⟨v1, vs1, d1, ds1, p1, q1, rfl, rfl, rfl, h1, r1⟩ := trodAll_cons r0
  obtain ⟨v2, vs2, d2, ds2, p2, q2, rfl, rfl, rfl, h2, r2⟩ := trodAll_cons r1
  obtain ⟨rfl, rfl, rfl⟩ := trodAll_nil r2
  obtain rfl : args = #[v0, v1, v2] := by cases args; simp_all
  obtain ⟨rfl, rfl⟩ := trodVars_none hV
  have k0 := h0
  have lt0 : ∀ x ∈ p0, x.block < W.heap.size := by obtain ⟨m, hm⟩ := k0; exact DataW.trod_lt m _ _ _ hm
  obtain ⟨n0, m0, rfl, wn0, wm0⟩ := open_frac (hval 0 66 v0 rfl rfl) h0
  have k1 := h1
  have lt1 : ∀ x ∈ p1, x.block < W.heap.size := by obtain ⟨m, hm⟩ := k1; exact DataW.trod_lt m _ _ _ hm
  obtain ⟨n1, m1, rfl, wn1, wm1⟩ := open_frac (hval 1 66 v1 rfl rfl) h1
  have k2 := h2
  have lt2 : ∀ x ∈ p2, x.block < W.heap.size := by obtain ⟨m, hm⟩ := k2; exact DataW.trod_lt m _ _ _ hm
  obtain ⟨n2, m2, rfl, wn2, wm2⟩ := open_frac (hval 2 66 v2 rfl rfl) h2
  clear hA0 hval0
  refine (walk ⟨n0, m0⟩ ⟨n1, m1⟩ ⟨n2, m2⟩ W).mono fun e W' ⟨he, bel⟩ => ?_
  subst he
  exact ⟨_, rfl, _, _, _, [], _, [], hW', trodAll_mk1 (shut_bool Try.underlying4 _), (trodAll_cons_mk (Below.trod laidOut (by kernel_rfl) (of_decide_eq_true (by kernel_rfl)) k0 bel lt0) (trodAll_cons_mk (Below.trod laidOut (by kernel_rfl) (of_decide_eq_true (by kernel_rfl)) k1 bel lt1) (trodAll_cons_mk (Below.trod laidOut (by kernel_rfl) (of_decide_eq_true (by kernel_rfl)) k2 bel lt2) trodAll_mk0))), rfl, bel.frame _, fun h => by cases h⟩

theorem over : Rows.fnExactTripOfRow.holds Try.pinned (OpenSpec.ofChange Rows.fnExactTripOfSpec) :=
  OpenClaim.holds_of_wide 9 Try.f9 rfl rfl rfl rfl rfl rfl rfl ⟨rfl, rfl, rfl, rfl, rfl⟩ rfl rfl rfl rfl rfl (by kernel_rfl) Try.func9 (by kernel_rfl)
    (of_decide_eq_true (by kernel_rfl)) (by unfold Func.isWrapper; first | (rw [if_pos (by decide +kernel)]; kernel_rfl) | (rw [if_neg (by decide +kernel)]; exact ⟨rfl, rfl⟩))
    (fun os started H enc _ => lifted os started H enc)
end Go.Proofs.Ytkkajcdjkfbcgaa.LawTripOf
namespace Go.Proofs.Ytkkajcdjkfbcgaa
theorem tripOf_holds : Rows.FnExactTripOfSaid := LawTripOf.over
#print axioms tripOf_holds
end Go.Proofs.Ytkkajcdjkfbcgaa
