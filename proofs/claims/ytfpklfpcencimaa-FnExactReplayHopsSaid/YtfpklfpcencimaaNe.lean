/- Nets: what is wrong with one, in both packages: contracts. -/
import Derived.Test.YtfpklfpcencimaaFc
import Derived.Test.YtfpklfpcencimaaLa
import Derived.Deep.DeepCutAuto
namespace Go.Proofs.Ytfpklfpcencimaa
open Go.RowKit
set_option linter.unusedVariables false
set_option linter.unusedSimpArgs false
theorem wp_region_kept {P : Program} {id : Nat} {Q : Exit → Act → World → Prop} {a : Act} {w : World} {l : List Oper} (B : Nat) (hm : P.follows .mixedOrders = true) (hB : Region.lexB .any l.toArray = true)
    (h : Nonempty (Kept B w) → wpQuiet P l.toArray (fun w' => ∃ x : Kept B w, w' = x.w) (fun a' => ∀ w', (∃ x : Kept B w, w' = x.w) → Q .normal a' w') l a) : (Code.region id l.toArray true).wp P Q a w :=
  wp_region_quiet (C := fun w' => ∃ x : Kept B w, w' = x.w) hm hB ⟨⟨w.drew, (Below.refl B w).drew⟩, rfl⟩ (by simpa using h ⟨⟨w, Below.refl B w⟩⟩)
theorem RdV.front {w : World} {a : Addr} {n m k cap : Nat} {f : Nat → Nat → Value} (h : RdV w (.slice (some a) n cap) n m f) (hk : k ≤ n) : RdV w (.slice (some a) k cap) k m f := by
  rcases h with ⟨ao, c, e, rfl⟩ | ⟨b, off, c, e, hc⟩
  · exact Or.inl ⟨some a, cap, by rw [show k = 0 by omega], by omega⟩
  · simp only [Value.slice.injEq, Option.some.injEq] at e
    obtain ⟨rfl, _, rfl⟩ := e
    exact Or.inr ⟨b, off, cap, rfl, fun i hi j hj => hc i (by omega) j hj⟩
set_option maxRecDepth 20000 in
set_option maxHeartbeats 1600000 in
theorem sNode_any (nodes slots v : Int) (ao : Option Addr) (nf cp : Nat) (w : World) : Calls Try.prog 26 #[.agg #[.int .i64 nodes, .int .i64 slots, .slice ao nf cp], .int .i64 v] w fun e w' => e = .returned (.bool (Nt.isN nodes v)) ∧ Below w.heap.size w w' := by
  unfold Nt.isN
  by_cases h : 0 ≤ v
  · by_cases k : v < nodes
    · rw [decide_eq_true h, decide_eq_true k]
      go_enter Try.func26, Try.ntmps26
      go_wp2
      go_ret
      exact ⟨rfl, by go_grown⟩
    · rw [decide_eq_true h, decide_eq_false k]
      go_enter Try.func26, Try.ntmps26
      go_wp2
      go_ret
      exact ⟨rfl, by go_grown⟩
  · rw [decide_eq_false h]
    go_enter Try.func26, Try.ntmps26
    go_wp2
    go_ret
    exact ⟨rfl, by go_grown⟩
set_option maxRecDepth 20000 in
set_option maxHeartbeats 1600000 in
theorem iNode_any (nodes slots v : Int) (ao : Option Addr) (nf cp : Nat) (w : World) : Calls Try.prog 30 #[.agg #[.int .i64 nodes, .int .i64 slots, .slice ao nf cp], .int .i64 v] w fun e w' => e = .returned (.bool (Nt.isN nodes v)) ∧ Below w.heap.size w w' := by
  unfold Nt.isN
  by_cases h : 0 ≤ v
  · by_cases k : v < nodes
    · rw [decide_eq_true h, decide_eq_true k]
      go_enter Try.func30, Try.ntmps30
      go_wp2
      go_ret
      exact ⟨rfl, by go_grown⟩
    · rw [decide_eq_true h, decide_eq_false k]
      go_enter Try.func30, Try.ntmps30
      go_wp2
      go_ret
      exact ⟨rfl, by go_grown⟩
  · rw [decide_eq_false h]
    go_enter Try.func30, Try.ntmps30
    go_wp2
    go_ret
    exact ⟨rfl, by go_grown⟩
set_option maxRecDepth 20000 in
set_option maxHeartbeats 1600000 in
theorem jcl_any (f g : Fb) (q : Nat) (w : World) (h0 : w.cell? ⟨q, 0, none⟩ = some (.int .i64 f.a)) (h1 : w.cell? ⟨q, 1, none⟩ = some (.int .i64 f.b)) : Calls Try.prog 62 #[.agg #[.int .i64 g.a, .int .i64 g.b, .int .i64 g.km], .pointer (some ⟨q, 0, none⟩)] w fun e w' => e = .returned (.bool (Nt.joins g f)) ∧ Below w.heap.size w w' := by
  have hlt := World.block_lt_of_cell? _ _ h0
  unfold Nt.joins
  by_cases h : g.a = f.a
  · have k0 : (g.a == f.a) = true := by simpa using h
    by_cases k : g.b = f.b
    · have k1 : (g.b == f.b) = true := by simpa using k
      rw [k0, k1]
      clear h k
      go_enter Try.func62, Try.ntmps62
      go_wp2
      go_ret
      exact ⟨rfl, by go_grown⟩
    · have k1 : (g.b == f.b) = false := by simpa using k
      rw [k0, k1]
      clear h k
      go_enter Try.func62, Try.ntmps62
      go_wp2
      go_ret
      exact ⟨rfl, by go_grown⟩
  · have k0 : (g.a == f.a) = false := by simpa using h
    rw [k0]
    clear h
    go_enter Try.func62, Try.ntmps62
    go_wp2
    go_ret
    exact ⟨rfl, by go_grown⟩
set_option maxRecDepth 20000 in
set_option maxHeartbeats 1600000 in
theorem jix_any {w : World} {ao : Option Addr} {n cap : Nat} {G : Nat → Fb} (f : Fb) (q : Nat) (h : RdV w (.slice ao n cap) n 3 (fun i j => fcell (G i) j)) (hn : n ≤ 1048576) (h0 : w.cell? ⟨q, 0, none⟩ = some (.int .i64 f.a)) (h1 : w.cell? ⟨q, 1, none⟩ = some (.int .i64 f.b)) :
    Calls Try.prog 64 #[.slice ao n cap, .func (.func 62) #[] #[.pointer (some ⟨q, 0, none⟩)]] w fun e w' => ∃ r : Int, e = .returned (.int .i64 r) ∧ decide (0 ≤ r) = Nt.any (fun k => Nt.joins (G k) f) n ∧ Below w.heap.size w w' := by
  have HR : ∀ W, Below w.heap.size w W → Hid (RdV W (.slice ao n cap) n 3 (fun i j => fcell (G i) j) ∧ W.cell? ⟨q, 0, none⟩ = some (.int .i64 f.a) ∧ W.cell? ⟨q, 1, none⟩ = some (.int .i64 f.b)) := fun W hb => ⟨h.later hb, kold hb h0, kold hb h1⟩
  clear h h0 h1
  have hnI : (n : Int) ≤ 1048576 := by omega
  go_enter Try.func64, Try.ntmps64
  go_wp2_with fail
  go_loopw [8] (fun i wr => ∃ k : Nat, k ≤ n ∧ i = .int .i64 k ∧ Hid (Below w.heap.size w wr) ∧ Hid (Nt.any (fun k => Nt.joins (G k) f) k = false)) (fun i _ => n - (intOf i).toNat)
  case atStart => exact ⟨0, Nat.zero_le _, rfl, Below.refl _ _, rfl⟩
  case round =>
    obtain ⟨k, hk, rfl, HB, HF⟩ := hrel
    by_cases hkn : k < n
    · obtain ⟨b, off, rfl, hc⟩ := (HR wr HB.out).out.1.at hkn
      have g0 : wr.cell? ⟨b, off + k * 3, none⟩ = some (.int .i64 (G k).a) := hc 0 (by omega)
      have g1 : wr.cell? ⟨b, off + k * 3 + 1, none⟩ = some (.int .i64 (G k).b) := hc 1 (by omega)
      have g2 : wr.cell? ⟨b, off + k * 3 + 2, none⟩ = some (.int .i64 (G k).km) := hc 2 (by omega)
      have e0 := (HR wr HB.out).out.2.1
      have e1 := (HR wr HB.out).out.2.2
      clear hc HR
      cases hj : Nt.joins (G k) f with
      | true =>
        have HJ : Hid (Nt.any (fun k => Nt.joins (G k) f) n = true) := Nt.any_hit hkn hj
        go_wp2_with (first | (go_at_call 62; refine (jcl_any f (G k) q _ e0 e1).mono ?_; rintro e w1 ⟨rfl, hb1⟩; rw [hj]))
        go_ret
        exact ⟨_, rfl, by rw [HJ.out]; simp, HB.out.trans (hb1.mono HB.out.size)⟩
      | false =>
        have HJ : Hid (Nt.any (fun k => Nt.joins (G k) f) (k + 1) = false) := Nt.any_next HF.out hj
        go_wp2_with (first | (go_at_call 62; refine (jcl_any f (G k) q _ e0 e1).mono ?_; rintro e w1 ⟨rfl, hb1⟩; rw [hj]))
        go_roundw
        case rel => exact ⟨k + 1, by omega, by simp, HB.out.trans (hb1.mono HB.out.size), HJ⟩
        case measure => simp [intOf]; omega
    · obtain rfl : k = n := by omega
      clear HR
      go_wp2
      go_ret
      exact ⟨_, rfl, by rw [HF.out]; simp, HB.out⟩
set_option maxRecDepth 20000 in
set_option maxHeartbeats 1600000 in
theorem jct_any {w : World} {ao : Option Addr} {n cap : Nat} {G : Nat → Fb} (f : Fb) (q : Nat) (h : RdV w (.slice ao n cap) n 3 (fun i j => fcell (G i) j)) (hn : n ≤ 1048576) (h0 : w.cell? ⟨q, 0, none⟩ = some (.int .i64 f.a)) (h1 : w.cell? ⟨q, 1, none⟩ = some (.int .i64 f.b)) :
    Calls Try.prog 61 #[.slice ao n cap, .func (.func 62) #[] #[.pointer (some ⟨q, 0, none⟩)]] w fun e w' => e = .returned (.bool (Nt.any (fun k => Nt.joins (G k) f) n)) ∧ Below w.heap.size w w' := by
  have HH : Hid (RdV w (.slice ao n cap) n 3 (fun i j => fcell (G i) j)) := h
  clear h
  go_enter Try.func61, Try.ntmps61
  go_wp2_with fail
  refine (jix_any f q HH.out hn h0 h1).mono ?_
  rintro e w1 ⟨r, rfl, hr, hb⟩
  have HD : Hid (decide (0 ≤ r) = Nt.any (fun k => Nt.joins (G k) f) n) := hr
  have HB : Hid (Below w.heap.size w w1) := hb
  clear hb hr
  go_wp2
  go_ret
  exact ⟨by rw [← HD.out]; rfl, HB.out⟩
set_option maxRecDepth 20000 in
set_option maxHeartbeats 1600000 in
theorem iJoins_any {w : World} {ao : Option Addr} {n cap : Nat} {G : Nat → Fb} (f : Fb) (h : RdV w (.slice ao n cap) n 3 (fun i j => fcell (G i) j)) (hn : n ≤ 1048576) :
    Calls Try.prog 51 #[.slice ao n cap, .agg #[.int .i64 f.a, .int .i64 f.b, .int .i64 f.km]] w fun e w' => e = .returned (.bool (Nt.any (fun k => Nt.joins (G k) f) n)) ∧ Below w.heap.size w w' := by
  have HH : ∀ W, Below w.heap.size w W → Hid (RdV W (.slice ao n cap) n 3 (fun i j => fcell (G i) j)) := fun W hb => h.later hb
  clear h
  go_enter Try.func51, Try.ntmps51
  go_wp2_with fail
  refine (jct_any f _ (HH _ (by go_grown)).out hn (by go_simp) (by go_simp)).mono ?_
  rintro e w1 ⟨rfl, hb⟩
  have HB : Hid (Below w.heap.size w w1) := by refine box_step ?_ hb (by simp); go_grown
  clear hb HH
  go_wp2
  go_ret
  exact ⟨rfl, HB.out⟩
theorem okF_split {nodes : Int} {f : Fb} : Nt.okF nodes f = (Nt.isN nodes f.a && Nt.isN nodes f.b && decide (f.a < f.b) && decide (1 ≤ f.km) && decide (f.km ≤ 100000)) := rfl
theorem okF_na {nodes : Int} {f : Fb} (h : Nt.isN nodes f.a = false) : Nt.okF nodes f = false := by rw [okF_split, h]; rfl
theorem okF_nb {nodes : Int} {f : Fb} (h : Nt.isN nodes f.b = false) : Nt.okF nodes f = false := by rw [okF_split, h]; simp
set_option maxRecDepth 20000 in
set_option maxHeartbeats 1600000 in
theorem iRight_any (nodes slots : Int) (ao : Option Addr) (nf cp : Nat) (f : Fb) (w : World) : Calls Try.prog 50 #[.agg #[.int .i64 nodes, .int .i64 slots, .slice ao nf cp], .agg #[.int .i64 f.a, .int .i64 f.b, .int .i64 f.km]] w fun e w' => e = .returned (.bool (Nt.okF nodes f)) ∧ Below w.heap.size w w' := by
  obtain ⟨X, hX⟩ : ∃ X, X = ((w.alloc (.cells #[.int .i64 nodes, .int .i64 slots, .slice ao nf cp] 32)).alloc (.cells #[.int .i64 f.a, .int .i64 f.b, .int .i64 f.km] 73)) := ⟨_, rfl⟩
  have BX : Hid (Blk X w.heap.size #[.int .i64 nodes, .int .i64 slots, .slice ao nf cp] 32 ∧ Blk X (w.heap.size + 1) #[.int .i64 f.a, .int .i64 f.b, .int .i64 f.km] 73 ∧ Below w.heap.size w X) := by rw [hX]; exact ⟨(Blk.new rfl).alloc _, Blk.new (by simp), ((Below.refl _ _).alloc (Nat.le_refl _) _).alloc (by simp) _⟩
  have CX : ∀ W, Below X.heap.size X W → W.cell? ⟨w.heap.size, 0, none⟩ = some (.int .i64 nodes) ∧ W.cell? ⟨w.heap.size, 1, none⟩ = some (.int .i64 slots) ∧ W.cell? ⟨w.heap.size, 2, none⟩ = some (.slice ao nf cp) ∧ W.cell? ⟨w.heap.size + 1, 0, none⟩ = some (.int .i64 f.a) ∧ W.cell? ⟨w.heap.size + 1, 1, none⟩ = some (.int .i64 f.b) ∧ W.cell? ⟨w.heap.size + 1, 2, none⟩ = some (.int .i64 f.km) :=
    fun W h => ⟨(BX.out.1.old h).cell rfl, (BX.out.1.old h).cell rfl, (BX.out.1.old h).cell rfl, (BX.out.2.1.old h).cell rfl, (BX.out.2.1.old h).cell rfl, (BX.out.2.1.old h).cell rfl⟩
  have hXz : w.heap.size ≤ X.heap.size := Nat.le_of_lt BX.out.1.lt
  rw [okF_split]
  cases h1 : Nt.isN nodes f.a with
  | false =>
    rw [Bool.false_and, Bool.false_and, Bool.false_and, Bool.false_and]
    go_enter Try.func50, Try.ntmps50
    go_wp2_with fail
    rw [← hX]
    clear hX
    obtain ⟨x0, x1, x2, x3, x4, x5⟩ := CX X (Below.refl _ _)
    go_wp2_with fail
    refine (iNode_any nodes slots f.a ao nf cp _).mono ?_
    rintro e w1 ⟨rfl, hb1⟩
    rw [h1]
    clear x0 x1 x2 x3 x4 x5
    go_wp2
    go_ret
    exact ⟨rfl, BX.out.2.2.trans (hb1.mono hXz)⟩
  | true =>
    cases h2 : Nt.isN nodes f.b with
    | false =>
      rw [Bool.true_and, Bool.false_and, Bool.false_and, Bool.false_and]
      go_enter Try.func50, Try.ntmps50
      go_wp2_with fail
      rw [← hX]
      clear hX
      obtain ⟨x0, x1, x2, x3, x4, x5⟩ := CX X (Below.refl _ _)
      go_wp2_with fail
      refine (iNode_any nodes slots f.a ao nf cp _).mono ?_
      rintro e w1 ⟨rfl, hb1⟩
      rw [h1]
      clear x0 x1 x2 x3 x4 x5
      obtain ⟨x0, x1, x2, x3, x4, x5⟩ := CX w1 hb1
      go_wp2_with fail
      refine (iNode_any nodes slots f.b ao nf cp _).mono ?_
      rintro e w2 ⟨rfl, hb2⟩
      rw [h2]
      clear x0 x1 x2 x3 x4 x5
      obtain ⟨x0, x1, x2, x3, x4, x5⟩ := CX w2 (hb1.trans (hb2.mono hb1.size))
      go_wp2
      go_ret
      exact ⟨rfl, BX.out.2.2.trans ((hb1.trans (hb2.mono hb1.size)).mono hXz)⟩
    | true =>
      rw [Bool.true_and, Bool.true_and]
      by_cases k0 : f.a < f.b
      · rw [decide_eq_true k0, Bool.true_and]
        by_cases k1 : 1 ≤ f.km
        · rw [decide_eq_true k1, Bool.true_and]
          go_enter Try.func50, Try.ntmps50
          go_wp2_with fail
          rw [← hX]
          clear hX
          obtain ⟨x0, x1, x2, x3, x4, x5⟩ := CX X (Below.refl _ _)
          go_wp2_with fail
          refine (iNode_any nodes slots f.a ao nf cp _).mono ?_
          rintro e w1 ⟨rfl, hb1⟩
          rw [h1]
          clear x0 x1 x2 x3 x4 x5
          obtain ⟨x0, x1, x2, x3, x4, x5⟩ := CX w1 hb1
          go_wp2_with fail
          refine (iNode_any nodes slots f.b ao nf cp _).mono ?_
          rintro e w2 ⟨rfl, hb2⟩
          rw [h2]
          clear x0 x1 x2 x3 x4 x5
          obtain ⟨x0, x1, x2, x3, x4, x5⟩ := CX w2 (hb1.trans (hb2.mono hb1.size))
          go_wp2
          go_ret
          exact ⟨rfl, BX.out.2.2.trans ((hb1.trans (hb2.mono hb1.size)).mono hXz)⟩
        · rw [decide_eq_false k1, Bool.false_and]
          go_enter Try.func50, Try.ntmps50
          go_wp2_with fail
          rw [← hX]
          clear hX
          obtain ⟨x0, x1, x2, x3, x4, x5⟩ := CX X (Below.refl _ _)
          go_wp2_with fail
          refine (iNode_any nodes slots f.a ao nf cp _).mono ?_
          rintro e w1 ⟨rfl, hb1⟩
          rw [h1]
          clear x0 x1 x2 x3 x4 x5
          obtain ⟨x0, x1, x2, x3, x4, x5⟩ := CX w1 hb1
          go_wp2_with fail
          refine (iNode_any nodes slots f.b ao nf cp _).mono ?_
          rintro e w2 ⟨rfl, hb2⟩
          rw [h2]
          clear x0 x1 x2 x3 x4 x5
          obtain ⟨x0, x1, x2, x3, x4, x5⟩ := CX w2 (hb1.trans (hb2.mono hb1.size))
          go_wp2
          go_ret
          exact ⟨rfl, BX.out.2.2.trans ((hb1.trans (hb2.mono hb1.size)).mono hXz)⟩
      · rw [decide_eq_false k0, Bool.false_and, Bool.false_and]
        go_enter Try.func50, Try.ntmps50
        go_wp2_with fail
        rw [← hX]
        clear hX
        obtain ⟨x0, x1, x2, x3, x4, x5⟩ := CX X (Below.refl _ _)
        go_wp2_with fail
        refine (iNode_any nodes slots f.a ao nf cp _).mono ?_
        rintro e w1 ⟨rfl, hb1⟩
        rw [h1]
        clear x0 x1 x2 x3 x4 x5
        obtain ⟨x0, x1, x2, x3, x4, x5⟩ := CX w1 hb1
        go_wp2_with fail
        refine (iNode_any nodes slots f.b ao nf cp _).mono ?_
        rintro e w2 ⟨rfl, hb2⟩
        rw [h2]
        clear x0 x1 x2 x3 x4 x5
        obtain ⟨x0, x1, x2, x3, x4, x5⟩ := CX w2 (hb1.trans (hb2.mono hb1.size))
        go_wp2
        go_ret
        exact ⟨rfl, BX.out.2.2.trans ((hb1.trans (hb2.mono hb1.size)).mono hXz)⟩
set_option maxRecDepth 20000 in
set_option maxHeartbeats 1600000 in
theorem iNf_early {w : World} {ao : Option Addr} {nf cp : Nat} {nodes slots : Int} {F : Nat → Fb} (hn : nf ≤ 1048576) (hq : 8 < nodes ∨ 14 < (nf : Int) ∨ nodes < 1 ∨ slots < 1 ∨ 64 < slots) :
    Calls Try.prog 29 #[.agg #[.int .i64 nodes, .int .i64 slots, .slice ao nf cp]] w fun e w' => e = .returned (.int .i64 (Nt.nfault nodes slots nf F)) ∧ Below w.heap.size w w' := by
  have hB : Below w.heap.size w (w.alloc (.cells #[.int .i64 nodes, .int .i64 slots, .slice ao nf cp] 32)) := (Below.refl _ _).alloc (Nat.le_refl _) _
  by_cases h1 : 8 < nodes
  · rw [Nt.nf_two (Or.inl h1)]
    clear hq
    go_enter Try.func29, Try.ntmps29
    go_wp2
    go_ret
    exact ⟨rfl, hB⟩
  · by_cases h2 : 14 < (nf : Int)
    · rw [Nt.nf_two (Or.inr h2)]
      clear hq
      go_enter Try.func29, Try.ntmps29
      go_wp2
      go_ret
      exact ⟨rfl, hB⟩
    · by_cases h3 : nodes < 1
      · rw [Nt.nf_one (by omega) (by omega) (Or.inl h3)]
        clear hq
        go_enter Try.func29, Try.ntmps29
        go_wp2
        go_ret
        exact ⟨rfl, hB⟩
      · by_cases h4 : slots < 1
        · rw [Nt.nf_one (by omega) (by omega) (Or.inr (Or.inl h4))]
          clear hq
          go_enter Try.func29, Try.ntmps29
          go_wp2
          go_ret
          exact ⟨rfl, hB⟩
        · have h5 : 64 < slots := by omega
          rw [Nt.nf_one (by omega) (by omega) (Or.inr (Or.inr (Or.inl h5)))]
          clear hq
          go_enter Try.func29, Try.ntmps29
          go_wp2
          go_ret
          exact ⟨rfl, hB⟩
set_option maxRecDepth 20000 in
set_option maxHeartbeats 1600000 in
theorem sNf_early {w : World} {ao : Option Addr} {nf cp : Nat} {nodes slots : Int} {F : Nat → Fb} (hn : nf ≤ 1048576) (hq : 8 < nodes ∨ 14 < (nf : Int) ∨ nodes < 1 ∨ slots < 1 ∨ 64 < slots) :
    Calls Try.prog 25 #[.agg #[.int .i64 nodes, .int .i64 slots, .slice ao nf cp]] w fun e w' => e = .returned (.int .i64 (Nt.nfault nodes slots nf F)) ∧ Below w.heap.size w w' := by
  have hB : Below w.heap.size w (w.alloc (.cells #[.int .i64 nodes, .int .i64 slots, .slice ao nf cp] 32)) := (Below.refl _ _).alloc (Nat.le_refl _) _
  by_cases h1 : 8 < nodes
  · rw [Nt.nf_two (Or.inl h1)]
    clear hq
    go_enter Try.func25, Try.ntmps25
    go_wp2
    go_ret
    exact ⟨rfl, hB⟩
  · by_cases h2 : 14 < (nf : Int)
    · rw [Nt.nf_two (Or.inr h2)]
      clear hq
      go_enter Try.func25, Try.ntmps25
      go_wp2
      go_ret
      exact ⟨rfl, hB⟩
    · by_cases h3 : nodes < 1
      · rw [Nt.nf_one (by omega) (by omega) (Or.inl h3)]
        clear hq
        go_enter Try.func25, Try.ntmps25
        go_wp2
        go_ret
        exact ⟨rfl, hB⟩
      · by_cases h4 : slots < 1
        · rw [Nt.nf_one (by omega) (by omega) (Or.inr (Or.inl h4))]
          clear hq
          go_enter Try.func25, Try.ntmps25
          go_wp2
          go_ret
          exact ⟨rfl, hB⟩
        · have h5 : 64 < slots := by omega
          rw [Nt.nf_one (by omega) (by omega) (Or.inr (Or.inr (Or.inl h5)))]
          clear hq
          go_enter Try.func25, Try.ntmps25
          go_wp2
          go_ret
          exact ⟨rfl, hB⟩
set_option maxRecDepth 20000 in
set_option maxHeartbeats 1600000 in
theorem iNf_go {w : World} {ao : Option Addr} {nf cp : Nat} {nodes slots : Int} {F : Nat → Fb} (h : RdV w (.slice ao nf cp) nf 3 (fun i j => fcell (F i) j)) (hcp : nf ≤ cp) (n8 : nodes ≤ 8) (f14 : nf ≤ 14) (n1 : 1 ≤ nodes) (s1 : 1 ≤ slots) (s64 : slots ≤ 64) :
    Calls Try.prog 29 #[.agg #[.int .i64 nodes, .int .i64 slots, .slice ao nf cp]] w fun e w' => e = .returned (.int .i64 (Nt.nfault nodes slots nf F)) ∧ Below w.heap.size w w' := by
  have hnI : (nf : Int) ≤ 14 := by omega
  obtain ⟨X, hX⟩ : ∃ X, X = (w.alloc (.cells #[.int .i64 nodes, .int .i64 slots, .slice ao nf cp] 32)) := ⟨_, rfl⟩
  have BX : Hid (Blk X w.heap.size #[.int .i64 nodes, .int .i64 slots, .slice ao nf cp] 32 ∧ Below w.heap.size w X) := by rw [hX]; exact ⟨Blk.new rfl, (Below.refl _ _).alloc (Nat.le_refl _) _⟩
  have hX0 : w.heap.size < X.heap.size := BX.out.1.lt
  have HM : ∀ W, Below X.heap.size X W → Hid (RdV W (.slice ao nf cp) nf 3 (fun i j => fcell (F i) j)) := fun W hb => h.later (BX.out.2.trans (hb.mono (Nat.le_of_lt hX0)))
  clear h
  have CX : ∀ W, Below X.heap.size X W → W.cell? ⟨w.heap.size, 0, none⟩ = some (.int .i64 nodes) ∧ W.cell? ⟨w.heap.size, 1, none⟩ = some (.int .i64 slots) ∧ W.cell? ⟨w.heap.size, 2, none⟩ = some (.slice ao nf cp) ∧ w.heap.size < W.heap.size :=
    fun W h => ⟨(BX.out.1.old h).cell rfl, (BX.out.1.old h).cell rfl, (BX.out.1.old h).cell rfl, (BX.out.1.old h).lt⟩
  obtain ⟨x0, x1, x2, x3⟩ := CX X (Below.refl _ _)
  go_enter Try.func29, Try.ntmps29
  go_wp2_with fail
  rw [← hX]
  clear hX x0 x1 x2 x3
  go_loopw [30] (fun i wr => ∃ k : Nat, k ≤ nf ∧ i = .int .i64 k ∧ Hid (Below X.heap.size X wr) ∧ Hid (Nt.any (Nt.badF nodes F) k = false)) (fun i _ => nf - (intOf i).toNat)
  case atStart => exact ⟨0, Nat.zero_le _, rfl, Below.refl _ _, rfl⟩
  case round =>
    obtain ⟨k, hk, rfl, HB, HF⟩ := hrel
    by_cases hkn : k < nf
    · obtain ⟨b, off, rfl, hc⟩ := (HM wr HB.out).out.at hkn
      obtain ⟨x0, x1, x2, x3⟩ := CX wr HB.out
      obtain ⟨g, hg⟩ : ∃ g, g = F k := ⟨_, rfl⟩
      have g0 : wr.cell? ⟨b, off + k * 3, none⟩ = some (.int .i64 g.a) := by rw [hg]; exact hc 0 (by omega)
      have g1 : wr.cell? ⟨b, off + k * 3 + 1, none⟩ = some (.int .i64 g.b) := by rw [hg]; exact hc 1 (by omega)
      have g2 : wr.cell? ⟨b, off + k * 3 + 2, none⟩ = some (.int .i64 g.km) := by rw [hg]; exact hc 2 (by omega)
      have HG : Hid (g = F k) := hg
      clear hc hg
      have hkc : (k : Int) ≤ cp := by omega
      obtain ⟨Y, hY⟩ : ∃ Y, Y = wr.alloc (.cells #[.int .i64 g.a, .int .i64 g.b, .int .i64 g.km] 73) := ⟨_, rfl⟩
      have BY : Hid (Blk Y wr.heap.size #[.int .i64 g.a, .int .i64 g.b, .int .i64 g.km] 73 ∧ Below X.heap.size X Y) := by rw [hY]; exact ⟨Blk.new rfl, HB.out.alloc HB.out.size _⟩
      have KN0 : ∀ x : Kept Y.heap.size Y, x.w.cell? ⟨w.heap.size, 0, none⟩ = some (.int .i64 nodes) := fun x => kold x.h (CX Y BY.out.2).1
      have KN1 : ∀ x : Kept Y.heap.size Y, x.w.cell? ⟨w.heap.size, 1, none⟩ = some (.int .i64 slots) := fun x => kold x.h (CX Y BY.out.2).2.1
      have KN2 : ∀ x : Kept Y.heap.size Y, x.w.cell? ⟨w.heap.size, 2, none⟩ = some (.slice (some ⟨b, off, none⟩) nf cp) := fun x => kold x.h (CX Y BY.out.2).2.2.1
      have KF0 : ∀ x : Kept Y.heap.size Y, x.w.cell? ⟨wr.heap.size, 0, none⟩ = some (.int .i64 g.a) := fun x => kold x.h (BY.out.1.cell rfl)
      have KF1 : ∀ x : Kept Y.heap.size Y, x.w.cell? ⟨wr.heap.size, 1, none⟩ = some (.int .i64 g.b) := fun x => kold x.h (BY.out.1.cell rfl)
      have KF2 : ∀ x : Kept Y.heap.size Y, x.w.cell? ⟨wr.heap.size, 2, none⟩ = some (.int .i64 g.km) := fun x => kold x.h (BY.out.1.cell rfl)
      have KR : ∀ x : Kept Y.heap.size Y, RdV x.w (.slice (some ⟨b, off, none⟩) k cp) k 3 (fun i j => fcell (F i) j) := fun x => RdV.front ((HM _ (BY.out.2.trans (x.h.mono BY.out.2.size))).out) (Nat.le_of_lt hkn)
      clear HM CX
      cases hr : Nt.okF nodes g with
      | false =>
        have hbad : Hid (Nt.any (Nt.badF nodes F) nf = true) := Nt.any_hit hkn (by unfold Nt.badF; rw [← HG.out, hr]; rfl)
        have hm : Hid (Nt.nfault nodes slots nf F = 1) := Nt.nf_one n8 hnI (Or.inr (Or.inr (Or.inr hbad.out)))
        have HRt : ∀ W, Calls Try.prog 50 #[.agg #[.int .i64 nodes, .int .i64 slots, .slice (some ⟨b, off, none⟩) nf cp], .agg #[.int .i64 g.a, .int .i64 g.b, .int .i64 g.km]] W fun e w' => e = .returned (.bool false) ∧ Below W.heap.size W w' := fun W => by have := iRight_any nodes slots (some ⟨b, off, none⟩) nf cp g W; rwa [hr] at this
        clear hbad hr
        go_upto_region 8 with fail
        rw [← hY]
        clear hY g0 g1 g2 x0 x1 x2 x3
        refine wp_region_kept Y.heap.size (by kernel_rfl) (by kernel_rfl) ?_
        intro hne
        repeat (go_big_quiet_step (first | (go_at_call 50; exact Calls.kept_of (Nat.le_refl _) (HRt _))))
        refine wpQuiet_nil ?_
        rintro u7 ⟨xk, hxk⟩
        have hR1 := xk.h
        rw [← hxk] at hR1
        clear hxk xk hne KN0 KN1 KN2 KF0 KF1 KF2 KR
        go_wp2
        go_ret
        exact ⟨by rw [hm.out]; rfl, BX.out.2.trans ((BY.out.2.trans (hR1.mono BY.out.2.size)).mono (Nat.le_of_lt hX0))⟩
      | true =>
        have HRt : ∀ W, Calls Try.prog 50 #[.agg #[.int .i64 nodes, .int .i64 slots, .slice (some ⟨b, off, none⟩) nf cp], .agg #[.int .i64 g.a, .int .i64 g.b, .int .i64 g.km]] W fun e w' => e = .returned (.bool true) ∧ Below W.heap.size W w' := fun W => by have := iRight_any nodes slots (some ⟨b, off, none⟩) nf cp g W; rwa [hr] at this
        cases hj : Nt.any (fun i => Nt.joins (F i) g) k with
        | true =>
          have hbad : Hid (Nt.any (Nt.badF nodes F) nf = true) := Nt.any_hit hkn (by unfold Nt.badF; rw [← HG.out, hr, hj]; rfl)
          have hm : Hid (Nt.nfault nodes slots nf F = 1) := Nt.nf_one n8 hnI (Or.inr (Or.inr (Or.inr hbad.out)))
          have HJt : ∀ x : Kept Y.heap.size Y, Calls Try.prog 51 #[.slice (some ⟨b, off, none⟩) k cp, .agg #[.int .i64 g.a, .int .i64 g.b, .int .i64 g.km]] x.w fun e w' => e = .returned (.bool true) ∧ Below x.w.heap.size x.w w' := fun x => by have := iJoins_any g (KR x) (by omega); rwa [hj] at this
          clear hbad hr hj
          go_upto_region 8 with fail
          rw [← hY]
          clear hY g0 g1 g2 x0 x1 x2 x3
          refine wp_region_kept Y.heap.size (by kernel_rfl) (by kernel_rfl) ?_
          intro hne
          repeat (go_big_quiet_step (first | (go_at_call 50; exact Calls.kept_of (Nat.le_refl _) (HRt _)) | (go_at_call 51; exact Calls.kept_of (Nat.le_refl _) (HJt _))))
          refine wpQuiet_nil ?_
          rintro u7 ⟨xk, hxk⟩
          have hR1 := xk.h
          rw [← hxk] at hR1
          clear hxk xk hne KN0 KN1 KN2 KF0 KF1 KF2 KR
          go_wp2
          go_ret
          exact ⟨by rw [hm.out]; rfl, BX.out.2.trans ((BY.out.2.trans (hR1.mono BY.out.2.size)).mono (Nat.le_of_lt hX0))⟩
        | false =>
          have hm : Hid (Nt.any (Nt.badF nodes F) (k + 1) = false) := Nt.any_next HF.out (by unfold Nt.badF; rw [← HG.out, hr, hj]; rfl)
          have HJt : ∀ x : Kept Y.heap.size Y, Calls Try.prog 51 #[.slice (some ⟨b, off, none⟩) k cp, .agg #[.int .i64 g.a, .int .i64 g.b, .int .i64 g.km]] x.w fun e w' => e = .returned (.bool false) ∧ Below x.w.heap.size x.w w' := fun x => by have := iJoins_any g (KR x) (by omega); rwa [hj] at this
          clear hr hj
          go_upto_region 8 with fail
          rw [← hY]
          clear hY g0 g1 g2 x0 x1 x2 x3
          refine wp_region_kept Y.heap.size (by kernel_rfl) (by kernel_rfl) ?_
          intro hne
          repeat (go_big_quiet_step (first | (go_at_call 50; exact Calls.kept_of (Nat.le_refl _) (HRt _)) | (go_at_call 51; exact Calls.kept_of (Nat.le_refl _) (HJt _))))
          refine wpQuiet_nil ?_
          rintro u7 ⟨xk, hxk⟩
          have hR1 := xk.h
          rw [← hxk] at hR1
          clear hxk xk hne KN0 KN1 KN2 KF0 KF1 KF2 KR
          go_wp2
          go_roundw
          case rel => exact ⟨k + 1, by omega, by simp, BY.out.2.trans (hR1.mono BY.out.2.size), hm⟩
          case measure => simp [intOf]; omega
    · obtain rfl : k = nf := by omega
      have hm : Hid (Nt.nfault nodes slots k F = 0) := Nt.nf_nil n8 hnI n1 s1 s64 HF.out
      clear HM CX
      go_wp2
      go_ret
      exact ⟨by rw [hm.out]; rfl, BX.out.2.trans (HB.out.mono (Nat.le_of_lt hX0))⟩
theorem iNf_any {w : World} {ao : Option Addr} {nf cp : Nat} {nodes slots : Int} {F : Nat → Fb} (h : RdV w (.slice ao nf cp) nf 3 (fun i j => fcell (F i) j)) (hcp : nf ≤ cp) (hn : nf ≤ 1048576) :
    Calls Try.prog 29 #[.agg #[.int .i64 nodes, .int .i64 slots, .slice ao nf cp]] w fun e w' => e = .returned (.int .i64 (Nt.nfault nodes slots nf F)) ∧ Below w.heap.size w w' := by
  by_cases hq : 8 < nodes ∨ 14 < (nf : Int) ∨ nodes < 1 ∨ slots < 1 ∨ 64 < slots
  · exact iNf_early hn hq
  · exact iNf_go h hcp (by omega) (by omega) (by omega) (by omega) (by omega)
set_option maxRecDepth 20000 in
set_option maxHeartbeats 1600000 in
theorem sNf_go {w : World} {ao : Option Addr} {nf cp : Nat} {nodes slots : Int} {F : Nat → Fb} (h : RdV w (.slice ao nf cp) nf 3 (fun i j => fcell (F i) j)) (n8 : nodes ≤ 8) (f14 : nf ≤ 14) (n1 : 1 ≤ nodes) (s1 : 1 ≤ slots) (s64 : slots ≤ 64) :
    Calls Try.prog 25 #[.agg #[.int .i64 nodes, .int .i64 slots, .slice ao nf cp]] w fun e w' => e = .returned (.int .i64 (Nt.nfault nodes slots nf F)) ∧ Below w.heap.size w w' := by
  have hnI : (nf : Int) ≤ 14 := by omega
  obtain ⟨X, hX⟩ : ∃ X, X = (w.alloc (.cells #[.int .i64 nodes, .int .i64 slots, .slice ao nf cp] 32)) := ⟨_, rfl⟩
  have BX : Hid (Blk X w.heap.size #[.int .i64 nodes, .int .i64 slots, .slice ao nf cp] 32 ∧ Below w.heap.size w X) := by rw [hX]; exact ⟨Blk.new rfl, (Below.refl _ _).alloc (Nat.le_refl _) _⟩
  have hX0 : w.heap.size < X.heap.size := BX.out.1.lt
  have HM : ∀ W, Below X.heap.size X W → Hid (RdV W (.slice ao nf cp) nf 3 (fun i j => fcell (F i) j)) := fun W hb => h.later (BX.out.2.trans (hb.mono (Nat.le_of_lt hX0)))
  clear h
  have CX : ∀ W, Below X.heap.size X W → W.cell? ⟨w.heap.size, 0, none⟩ = some (.int .i64 nodes) ∧ W.cell? ⟨w.heap.size, 1, none⟩ = some (.int .i64 slots) ∧ W.cell? ⟨w.heap.size, 2, none⟩ = some (.slice ao nf cp) ∧ w.heap.size < W.heap.size :=
    fun W h => ⟨(BX.out.1.old h).cell rfl, (BX.out.1.old h).cell rfl, (BX.out.1.old h).cell rfl, (BX.out.1.old h).lt⟩
  obtain ⟨x0, x1, x2, x3⟩ := CX X (Below.refl _ _)
  go_enter Try.func25, Try.ntmps25
  go_wp2_with fail
  rw [← hX]
  clear hX x0 x1 x2 x3
  go_loopw [3] (fun i wr => ∃ k : Nat, k ≤ nf ∧ i = .int .i64 k ∧ Hid (Below X.heap.size X wr) ∧ Hid (Nt.any (Nt.badF nodes F) k = false)) (fun i _ => nf - (intOf i).toNat)
  case atStart => exact ⟨0, Nat.zero_le _, rfl, Below.refl _ _, rfl⟩
  case round =>
    obtain ⟨k, hk, rfl, HB, HF⟩ := hrel
    obtain ⟨wo, hwo⟩ : ∃ wo, wo = wr := ⟨_, rfl⟩
    by_cases hkn : k < nf
    · obtain ⟨b, off, rfl, hc⟩ := (HM wr HB.out).out.at hkn
      obtain ⟨x0, x1, x2, x3⟩ := CX wr HB.out
      obtain ⟨g, hg⟩ : ∃ g, g = F k := ⟨_, rfl⟩
      have g0 : wr.cell? ⟨b, off + k * 3, none⟩ = some (.int .i64 g.a) := by rw [hg]; exact hc 0 (by omega)
      have g1 : wr.cell? ⟨b, off + k * 3 + 1, none⟩ = some (.int .i64 g.b) := by rw [hg]; exact hc 1 (by omega)
      have g2 : wr.cell? ⟨b, off + k * 3 + 2, none⟩ = some (.int .i64 g.km) := by rw [hg]; exact hc 2 (by omega)
      have HG : Hid (g = F k) := hg
      clear hc hg
      subst hwo
      obtain ⟨Y, hY⟩ : ∃ Y, Y = wo.alloc (.cells #[.int .i64 g.a, .int .i64 g.b, .int .i64 g.km] 73) := ⟨_, rfl⟩
      have BY : Hid (Blk Y wo.heap.size #[.int .i64 g.a, .int .i64 g.b, .int .i64 g.km] 73 ∧ Below X.heap.size X Y) := by rw [hY]; exact ⟨Blk.new rfl, HB.out.alloc HB.out.size _⟩
      have CY : ∀ W, Below Y.heap.size Y W → W.cell? ⟨wo.heap.size, 0, none⟩ = some (.int .i64 g.a) ∧ W.cell? ⟨wo.heap.size, 1, none⟩ = some (.int .i64 g.b) ∧ W.cell? ⟨wo.heap.size, 2, none⟩ = some (.int .i64 g.km) := fun W h => ⟨(BY.out.1.old h).cell rfl, (BY.out.1.old h).cell rfl, (BY.out.1.old h).cell rfl⟩
      cases h1 : Nt.isN nodes g.a with
      | false =>
        have hbad : Hid (Nt.any (Nt.badF nodes F) nf = true) := Nt.any_hit hkn (by unfold Nt.badF; rw [← HG.out, okF_na h1]; rfl)
        have hm : Hid (Nt.nfault nodes slots nf F = 1) := Nt.nf_one n8 hnI (Or.inr (Or.inr (Or.inr hbad.out)))
        clear hbad
        go_upto_region 9 with fail
        rw [← hY]
        clear hY g0 g1 g2 x0 x1 x2 x3
        obtain ⟨x0, x1, x2, x3⟩ := CX Y BY.out.2
        obtain ⟨y0, y1, y2⟩ := CY Y (Below.refl _ _)
        go_wp2_with fail
        refine (sNode_any nodes slots g.a (some ⟨b, off, none⟩) nf cp _).mono ?_
        rintro e w1 ⟨rfl, hb1⟩
        rw [h1]
        clear x0 x1 x2 x3 y0 y1 y2
        obtain ⟨x0, x1, x2, x3⟩ := CX w1 (BY.out.2.trans (hb1.mono BY.out.2.size))
        obtain ⟨y0, y1, y2⟩ := CY w1 hb1
        go_wp2
        go_ret
        exact ⟨by rw [hm.out]; rfl, BX.out.2.trans (Below.mono (BY.out.2.trans (Below.mono hb1 BY.out.2.size)) (Nat.le_of_lt hX0))⟩
      | true =>
        cases h2 : Nt.isN nodes g.b with
        | false =>
          have hbad : Hid (Nt.any (Nt.badF nodes F) nf = true) := Nt.any_hit hkn (by unfold Nt.badF; rw [← HG.out, okF_nb h2]; rfl)
          have hm : Hid (Nt.nfault nodes slots nf F = 1) := Nt.nf_one n8 hnI (Or.inr (Or.inr (Or.inr hbad.out)))
          clear hbad
          go_upto_region 9 with fail
          rw [← hY]
          clear hY g0 g1 g2 x0 x1 x2 x3
          obtain ⟨x0, x1, x2, x3⟩ := CX Y BY.out.2
          obtain ⟨y0, y1, y2⟩ := CY Y (Below.refl _ _)
          go_wp2_with fail
          refine (sNode_any nodes slots g.a (some ⟨b, off, none⟩) nf cp _).mono ?_
          rintro e w1 ⟨rfl, hb1⟩
          rw [h1]
          clear x0 x1 x2 x3 y0 y1 y2
          obtain ⟨x0, x1, x2, x3⟩ := CX w1 (BY.out.2.trans (hb1.mono BY.out.2.size))
          obtain ⟨y0, y1, y2⟩ := CY w1 hb1
          go_wp2_with fail
          refine (sNode_any nodes slots g.b (some ⟨b, off, none⟩) nf cp _).mono ?_
          rintro e w2 ⟨rfl, hb2⟩
          rw [h2]
          clear x0 x1 x2 x3 y0 y1 y2
          obtain ⟨x0, x1, x2, x3⟩ := CX w2 (BY.out.2.trans ((hb1.trans (hb2.mono hb1.size)).mono BY.out.2.size))
          obtain ⟨y0, y1, y2⟩ := CY w2 (hb1.trans (hb2.mono hb1.size))
          go_wp2
          go_ret
          exact ⟨by rw [hm.out]; rfl, BX.out.2.trans (Below.mono (BY.out.2.trans (Below.mono (hb1.trans (hb2.mono hb1.size)) BY.out.2.size)) (Nat.le_of_lt hX0))⟩
        | true =>
          by_cases k0 : g.a < g.b
          · skip
            by_cases k1 : 1 ≤ g.km
            · skip
              by_cases k2 : g.km ≤ 100000
              · skip
                have hok : Hid (Nt.okF nodes g = true) := by rw [okF_split, h1, h2, decide_eq_true k0, decide_eq_true k1, decide_eq_true k2]; rfl
                go_upto_region 9 with fail
                rw [← hY]
                clear hY g0 g1 g2 x0 x1 x2 x3
                obtain ⟨x0, x1, x2, x3⟩ := CX Y BY.out.2
                obtain ⟨y0, y1, y2⟩ := CY Y (Below.refl _ _)
                go_wp2_with fail
                refine (sNode_any nodes slots g.a (some ⟨b, off, none⟩) nf cp _).mono ?_
                rintro e w1 ⟨rfl, hb1⟩
                rw [h1]
                clear x0 x1 x2 x3 y0 y1 y2
                obtain ⟨x0, x1, x2, x3⟩ := CX w1 (BY.out.2.trans (hb1.mono BY.out.2.size))
                obtain ⟨y0, y1, y2⟩ := CY w1 hb1
                go_wp2_with fail
                refine (sNode_any nodes slots g.b (some ⟨b, off, none⟩) nf cp _).mono ?_
                rintro e w2 ⟨rfl, hb2⟩
                rw [h2]
                clear x0 x1 x2 x3 y0 y1 y2
                obtain ⟨x0, x1, x2, x3⟩ := CX w2 (BY.out.2.trans ((hb1.trans (hb2.mono hb1.size)).mono BY.out.2.size))
                obtain ⟨y0, y1, y2⟩ := CY w2 (hb1.trans (hb2.mono hb1.size))
                have HZ : Hid (Below X.heap.size X w2 ∧ Below Y.heap.size Y w2) := ⟨BY.out.2.trans ((hb1.trans (hb2.mono hb1.size)).mono BY.out.2.size), hb1.trans (hb2.mono hb1.size)⟩
                go_wp2_with fail
                clear y0 y1 y2 x0 x1 x2 x3 hb1 hb2 h1 h2 k0 k1 k2
                go_loopw [5] (fun i wq => ∃ j : Nat, j ≤ k ∧ i = .int .i64 j ∧ Hid (Below Y.heap.size Y wq) ∧ Hid (Nt.any (fun i => Nt.joins (F i) g) j = false)) (fun i _ => k - (intOf i).toNat)
                case atStart => exact ⟨0, Nat.zero_le _, rfl, HZ.out.2, rfl⟩
                case round =>
                  obtain ⟨j, hj, rfl, HQ, HJ⟩ := hrel
                  by_cases hjk : j < k
                  · obtain ⟨b', off', hbo, hc⟩ := (HM wr (BY.out.2.trans (HQ.out.mono BY.out.2.size))).out.at (show j < nf by omega)
                    simp only [Option.some.injEq, Addr.mk.injEq, and_true] at hbo
                    obtain ⟨rfl, rfl⟩ := hbo
                    have KR0 : ∀ x : Kept wr.heap.size wr, x.w.cell? ⟨b, off + j * 3, none⟩ = some (.int .i64 (F j).a) := fun x => kold x.h (hc 0 (by omega))
                    have KR1 : ∀ x : Kept wr.heap.size wr, x.w.cell? ⟨b, off + j * 3 + 1, none⟩ = some (.int .i64 (F j).b) := fun x => kold x.h (hc 1 (by omega))
                    have KN2 : ∀ x : Kept wr.heap.size wr, x.w.cell? ⟨w.heap.size, 2, none⟩ = some (.slice (some ⟨b, off, none⟩) nf cp) := fun x => kold x.h (CX wr (BY.out.2.trans (HQ.out.mono BY.out.2.size))).2.2.1
                    have KF0 : ∀ x : Kept wr.heap.size wr, x.w.cell? ⟨wo.heap.size, 0, none⟩ = some (.int .i64 g.a) := fun x => kold x.h (CY wr HQ.out).1
                    have KF1 : ∀ x : Kept wr.heap.size wr, x.w.cell? ⟨wo.heap.size, 1, none⟩ = some (.int .i64 g.b) := fun x => kold x.h (CY wr HQ.out).2.1
                    clear hc
                    have hjI : (j : Int) < nf := by omega
                    cases q1 : ((F j).a == g.a) with
                    | false =>
                      have hm : Hid (Nt.any (fun i => Nt.joins (F i) g) (j + 1) = false) := Nt.any_next HJ.out (by unfold Nt.joins; rw [q1]; rfl)
                      go_wp2_with fail
                      refine wp_region_kept wr.heap.size (by kernel_rfl) (by kernel_rfl) ?_
                      intro hne
                      repeat (go_big_quiet_step (fail))
                      refine wpQuiet_nil ?_
                      rintro u7 ⟨xk, hxk⟩
                      have hR1 := xk.h
                      rw [← hxk] at hR1
                      clear hxk xk hne KN2 KF0 KF1 KR0 KR1 CX CY HM
                      go_wp2
                      go_roundw
                      case rel => exact ⟨j + 1, by omega, by simp, HQ.out.trans (hR1.mono HQ.out.size), hm⟩
                      case measure => simp [intOf]; omega
                    | true =>
                      cases q2 : ((F j).b == g.b) with
                      | false =>
                        have hm : Hid (Nt.any (fun i => Nt.joins (F i) g) (j + 1) = false) := Nt.any_next HJ.out (by unfold Nt.joins; rw [q1, q2]; rfl)
                        go_wp2_with fail
                        refine wp_region_kept wr.heap.size (by kernel_rfl) (by kernel_rfl) ?_
                        intro hne
                        repeat (go_big_quiet_step (fail))
                        refine wpQuiet_nil ?_
                        rintro u7 ⟨xk, hxk⟩
                        have hR1 := xk.h
                        rw [← hxk] at hR1
                        clear hxk xk hne KN2 KF0 KF1 KR0 KR1 CX CY HM
                        go_wp2
                        go_roundw
                        case rel => exact ⟨j + 1, by omega, by simp, HQ.out.trans (hR1.mono HQ.out.size), hm⟩
                        case measure => simp [intOf]; omega
                      | true =>
                        have hbad : Hid (Nt.any (Nt.badF nodes F) nf = true) := Nt.any_hit hkn (by unfold Nt.badF; rw [← HG.out, hok.out, Nt.any_hit (q := fun i => Nt.joins (F i) g) hjk (by unfold Nt.joins; rw [q1, q2]; rfl)]; rfl)
                        have hm : Hid (Nt.nfault nodes slots nf F = 1) := Nt.nf_one n8 hnI (Or.inr (Or.inr (Or.inr hbad.out)))
                        clear hbad
                        go_wp2_with fail
                        refine wp_region_kept wr.heap.size (by kernel_rfl) (by kernel_rfl) ?_
                        intro hne
                        repeat (go_big_quiet_step (fail))
                        refine wpQuiet_nil ?_
                        rintro u7 ⟨xk, hxk⟩
                        have hR1 := xk.h
                        rw [← hxk] at hR1
                        clear hxk xk hne KN2 KF0 KF1 KR0 KR1 CX CY HM
                        go_wp2
                        go_ret
                        exact ⟨by rw [hm.out]; rfl, BX.out.2.trans (Below.mono (BY.out.2.trans (Below.mono (HQ.out.trans (hR1.mono HQ.out.size)) BY.out.2.size)) (Nat.le_of_lt hX0))⟩
                  · obtain rfl : j = k := by omega
                    have hm : Hid (Nt.any (Nt.badF nodes F) (j + 1) = false) := Nt.any_next HF.out (by unfold Nt.badF; rw [← HG.out, hok.out, HJ.out]; rfl)
                    clear HM CX CY
                    go_wp2
                    go_roundw
                    case rel => exact ⟨j + 1, by omega, by simp, BY.out.2.trans (HQ.out.mono BY.out.2.size), hm⟩
                    case measure => simp [intOf]; omega
              · skip
                have hbad : Hid (Nt.any (Nt.badF nodes F) nf = true) := Nt.any_hit hkn (by unfold Nt.badF; rw [← HG.out, Nt.okF_no (by omega)]; rfl)
                have hm : Hid (Nt.nfault nodes slots nf F = 1) := Nt.nf_one n8 hnI (Or.inr (Or.inr (Or.inr hbad.out)))
                clear hbad
                go_upto_region 9 with fail
                rw [← hY]
                clear hY g0 g1 g2 x0 x1 x2 x3
                obtain ⟨x0, x1, x2, x3⟩ := CX Y BY.out.2
                obtain ⟨y0, y1, y2⟩ := CY Y (Below.refl _ _)
                go_wp2_with fail
                refine (sNode_any nodes slots g.a (some ⟨b, off, none⟩) nf cp _).mono ?_
                rintro e w1 ⟨rfl, hb1⟩
                rw [h1]
                clear x0 x1 x2 x3 y0 y1 y2
                obtain ⟨x0, x1, x2, x3⟩ := CX w1 (BY.out.2.trans (hb1.mono BY.out.2.size))
                obtain ⟨y0, y1, y2⟩ := CY w1 hb1
                go_wp2_with fail
                refine (sNode_any nodes slots g.b (some ⟨b, off, none⟩) nf cp _).mono ?_
                rintro e w2 ⟨rfl, hb2⟩
                rw [h2]
                clear x0 x1 x2 x3 y0 y1 y2
                obtain ⟨x0, x1, x2, x3⟩ := CX w2 (BY.out.2.trans ((hb1.trans (hb2.mono hb1.size)).mono BY.out.2.size))
                obtain ⟨y0, y1, y2⟩ := CY w2 (hb1.trans (hb2.mono hb1.size))
                go_wp2
                go_ret
                exact ⟨by rw [hm.out]; rfl, BX.out.2.trans (Below.mono (BY.out.2.trans (Below.mono (hb1.trans (hb2.mono hb1.size)) BY.out.2.size)) (Nat.le_of_lt hX0))⟩
            · skip
              have hbad : Hid (Nt.any (Nt.badF nodes F) nf = true) := Nt.any_hit hkn (by unfold Nt.badF; rw [← HG.out, Nt.okF_no (by omega)]; rfl)
              have hm : Hid (Nt.nfault nodes slots nf F = 1) := Nt.nf_one n8 hnI (Or.inr (Or.inr (Or.inr hbad.out)))
              clear hbad
              go_upto_region 9 with fail
              rw [← hY]
              clear hY g0 g1 g2 x0 x1 x2 x3
              obtain ⟨x0, x1, x2, x3⟩ := CX Y BY.out.2
              obtain ⟨y0, y1, y2⟩ := CY Y (Below.refl _ _)
              go_wp2_with fail
              refine (sNode_any nodes slots g.a (some ⟨b, off, none⟩) nf cp _).mono ?_
              rintro e w1 ⟨rfl, hb1⟩
              rw [h1]
              clear x0 x1 x2 x3 y0 y1 y2
              obtain ⟨x0, x1, x2, x3⟩ := CX w1 (BY.out.2.trans (hb1.mono BY.out.2.size))
              obtain ⟨y0, y1, y2⟩ := CY w1 hb1
              go_wp2_with fail
              refine (sNode_any nodes slots g.b (some ⟨b, off, none⟩) nf cp _).mono ?_
              rintro e w2 ⟨rfl, hb2⟩
              rw [h2]
              clear x0 x1 x2 x3 y0 y1 y2
              obtain ⟨x0, x1, x2, x3⟩ := CX w2 (BY.out.2.trans ((hb1.trans (hb2.mono hb1.size)).mono BY.out.2.size))
              obtain ⟨y0, y1, y2⟩ := CY w2 (hb1.trans (hb2.mono hb1.size))
              go_wp2
              go_ret
              exact ⟨by rw [hm.out]; rfl, BX.out.2.trans (Below.mono (BY.out.2.trans (Below.mono (hb1.trans (hb2.mono hb1.size)) BY.out.2.size)) (Nat.le_of_lt hX0))⟩
          · skip
            have hbad : Hid (Nt.any (Nt.badF nodes F) nf = true) := Nt.any_hit hkn (by unfold Nt.badF; rw [← HG.out, Nt.okF_no (by omega)]; rfl)
            have hm : Hid (Nt.nfault nodes slots nf F = 1) := Nt.nf_one n8 hnI (Or.inr (Or.inr (Or.inr hbad.out)))
            clear hbad
            go_upto_region 9 with fail
            rw [← hY]
            clear hY g0 g1 g2 x0 x1 x2 x3
            obtain ⟨x0, x1, x2, x3⟩ := CX Y BY.out.2
            obtain ⟨y0, y1, y2⟩ := CY Y (Below.refl _ _)
            go_wp2_with fail
            refine (sNode_any nodes slots g.a (some ⟨b, off, none⟩) nf cp _).mono ?_
            rintro e w1 ⟨rfl, hb1⟩
            rw [h1]
            clear x0 x1 x2 x3 y0 y1 y2
            obtain ⟨x0, x1, x2, x3⟩ := CX w1 (BY.out.2.trans (hb1.mono BY.out.2.size))
            obtain ⟨y0, y1, y2⟩ := CY w1 hb1
            go_wp2_with fail
            refine (sNode_any nodes slots g.b (some ⟨b, off, none⟩) nf cp _).mono ?_
            rintro e w2 ⟨rfl, hb2⟩
            rw [h2]
            clear x0 x1 x2 x3 y0 y1 y2
            obtain ⟨x0, x1, x2, x3⟩ := CX w2 (BY.out.2.trans ((hb1.trans (hb2.mono hb1.size)).mono BY.out.2.size))
            obtain ⟨y0, y1, y2⟩ := CY w2 (hb1.trans (hb2.mono hb1.size))
            go_wp2
            go_ret
            exact ⟨by rw [hm.out]; rfl, BX.out.2.trans (Below.mono (BY.out.2.trans (Below.mono (hb1.trans (hb2.mono hb1.size)) BY.out.2.size)) (Nat.le_of_lt hX0))⟩
    · obtain rfl : k = nf := by omega
      have hm : Hid (Nt.nfault nodes slots k F = 0) := Nt.nf_nil n8 hnI n1 s1 s64 HF.out
      obtain ⟨x0, x1, x2, x3⟩ := CX wr HB.out
      clear HM CX
      go_wp2
      go_ret
      exact ⟨by rw [hm.out]; rfl, BX.out.2.trans (HB.out.mono (Nat.le_of_lt hX0))⟩
theorem sNf_any {w : World} {ao : Option Addr} {nf cp : Nat} {nodes slots : Int} {F : Nat → Fb} (h : RdV w (.slice ao nf cp) nf 3 (fun i j => fcell (F i) j)) (hn : nf ≤ 1048576) :
    Calls Try.prog 25 #[.agg #[.int .i64 nodes, .int .i64 slots, .slice ao nf cp]] w fun e w' => e = .returned (.int .i64 (Nt.nfault nodes slots nf F)) ∧ Below w.heap.size w w' := by
  by_cases hq : 8 < nodes ∨ 14 < (nf : Int) ∨ nodes < 1 ∨ slots < 1 ∨ 64 < slots
  · exact sNf_early hn hq
  · exact sNf_go h (by omega) (by omega) (by omega) (by omega) (by omega)
end Go.Proofs.Ytfpklfpcencimaa
