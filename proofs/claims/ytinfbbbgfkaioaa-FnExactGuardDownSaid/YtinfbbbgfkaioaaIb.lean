/- Lights in the program: what is wrong with one by itself, its slots, how they are entered into a book: contracts. -/
import Derived.Test.YtinfbbbgfkaioaaBo
import Derived.Test.YtinfbbbgfkaioaaRq
namespace Go.Proofs.Ytinfbbbgfkaioaa
open Go.RowKit Go.Maps
set_option linter.unusedVariables false
set_option linter.unusedSimpArgs false
/-- What is wrong with a light by itself, but for its Id. -/
def lonly (nodes slots : Int) (nf : Nat) (F : Nat → Fb) (x : Li) (m : Nat) : Int :=
  if Nt.rfault nodes slots nf F x.fr x.tt m x.p = 0 then (if x.wd < 1 ∨ x.fi < 0 ∨ slots - x.fi < x.wd then 3 else 0) else Nt.rfault nodes slots nf F x.fr x.tt m x.p
set_option maxRecDepth 20000 in
set_option maxHeartbeats 3200000 in
theorem iLitF_any {w : World} {ao po : Option Addr} {nf cp m pc : Nat} {nodes slots : Int} {F : Nat → Fb} (x : Li) (h : Rf w (.slice ao nf cp) nf F) (hp : RdRow w (.slice po m pc) m x.p) (hcp : nf ≤ cp) (hf : nf ≤ 1048576) (hmb : m ≤ 1048576) (s1 : 1 ≤ slots) (s64 : slots ≤ 64) (fhi : x.fi ≤ 9223372036854775807) :
    Calls Try.prog 110 #[.agg #[.int .i64 nodes, .int .i64 slots, .slice ao nf cp], .agg #[.int .i64 x.id, .int .i64 x.fr, .int .i64 x.tt, .slice po m pc, .int .i64 x.fi, .int .i64 x.wd]] w fun e w' => e = .returned (.int .i64 (lonly nodes slots nf F x m)) ∧ Below w.heap.size w w' := by
  obtain ⟨Y, hY⟩ : ∃ Y, Y = ((w.alloc (.cells #[.int .i64 nodes, .int .i64 slots, .slice ao nf cp] 37)).alloc (.cells #[.int .i64 x.id, .int .i64 x.fr, .int .i64 x.tt, .slice po m pc, .int .i64 x.fi, .int .i64 x.wd] 80)) := ⟨_, rfl⟩
  have BY : Hid (Blk Y w.heap.size #[.int .i64 nodes, .int .i64 slots, .slice ao nf cp] 37 ∧ Blk Y (w.heap.size + 1) #[.int .i64 x.id, .int .i64 x.fr, .int .i64 x.tt, .slice po m pc, .int .i64 x.fi, .int .i64 x.wd] 80 ∧ Below w.heap.size w Y) := by rw [hY]; exact ⟨(Blk.new rfl).alloc _, Blk.new (by simp), ((Below.refl _ _).alloc (Nat.le_refl _) _).alloc (by simp) _⟩
  have hYz : w.heap.size ≤ Y.heap.size := Nat.le_of_lt BY.out.1.lt
  have CX : ∀ W, Below Y.heap.size Y W → W.cell? ⟨w.heap.size, 0, none⟩ = some (.int .i64 nodes) ∧ W.cell? ⟨w.heap.size, 1, none⟩ = some (.int .i64 slots) ∧ W.cell? ⟨w.heap.size, 2, none⟩ = some (.slice ao nf cp) ∧ W.cell? ⟨w.heap.size + 1, 0, none⟩ = some (.int .i64 x.id) ∧ W.cell? ⟨w.heap.size + 1, 1, none⟩ = some (.int .i64 x.fr) ∧ W.cell? ⟨w.heap.size + 1, 2, none⟩ = some (.int .i64 x.tt) ∧ W.cell? ⟨w.heap.size + 1, 3, none⟩ = some (.slice po m pc) ∧ W.cell? ⟨w.heap.size + 1, 4, none⟩ = some (.int .i64 x.fi) ∧ W.cell? ⟨w.heap.size + 1, 5, none⟩ = some (.int .i64 x.wd) := fun W h => ⟨(BY.out.1.old h).cell rfl, (BY.out.1.old h).cell rfl, (BY.out.1.old h).cell rfl, (BY.out.2.1.old h).cell rfl, (BY.out.2.1.old h).cell rfl, (BY.out.2.1.old h).cell rfl, (BY.out.2.1.old h).cell rfl, (BY.out.2.1.old h).cell rfl, (BY.out.2.1.old h).cell rfl⟩
  have H : ∀ W, Below Y.heap.size Y W → Hid (Rf W (.slice ao nf cp) nf F ∧ RdRow W (.slice po m pc) m x.p) := fun W hb => ⟨h.later (BY.out.2.2.trans (hb.mono hYz)), hp.later (BY.out.2.2.trans (hb.mono hYz))⟩
  clear h hp
  obtain ⟨c, hc⟩ : ∃ c, c = Nt.rfault nodes slots nf F x.fr x.tt m x.p := ⟨_, rfl⟩
  have HC : Hid (c = Nt.rfault nodes slots nf F x.fr x.tt m x.p) := hc
  unfold lonly
  rw [← hc]
  clear hc
  by_cases hz : c = 0
  · rw [if_pos hz]
    have hzb : (c != 0) = false := by simp [hz]
    by_cases g0 : x.wd < 1
    · rw [if_pos (Or.inl g0)]
      clear hz
      go_enter Try.func110, Try.ntmps110
      go_wp2_with fail
      rw [← hY]
      clear hY
      obtain ⟨x0, x1, x2, x3, x4, x5, x6, x7, x8⟩ := CX Y (Below.refl _ _)
      go_wp2_with fail
      refine (iRf_any x.fr x.tt (H _ (Below.refl _ _)).out.1 (H _ (Below.refl _ _)).out.2 hcp hf hmb).mono ?_
      rintro e w1 ⟨rfl, hb1⟩
      rw [← HC.out]
      clear x0 x1 x2 x3 x4 x5 x6 x7 x8
      obtain ⟨x0, x1, x2, x3, x4, x5, x6, x7, x8⟩ := CX w1 hb1
      go_wp2
      go_ret
      exact ⟨rfl, BY.out.2.2.trans (hb1.mono hYz)⟩
    · by_cases g1 : x.fi < 0
      · rw [if_pos (Or.inr (Or.inl g1))]
        clear hz
        go_enter Try.func110, Try.ntmps110
        go_wp2_with fail
        rw [← hY]
        clear hY
        obtain ⟨x0, x1, x2, x3, x4, x5, x6, x7, x8⟩ := CX Y (Below.refl _ _)
        go_wp2_with fail
        refine (iRf_any x.fr x.tt (H _ (Below.refl _ _)).out.1 (H _ (Below.refl _ _)).out.2 hcp hf hmb).mono ?_
        rintro e w1 ⟨rfl, hb1⟩
        rw [← HC.out]
        clear x0 x1 x2 x3 x4 x5 x6 x7 x8
        obtain ⟨x0, x1, x2, x3, x4, x5, x6, x7, x8⟩ := CX w1 hb1
        go_wp2
        go_ret
        exact ⟨rfl, BY.out.2.2.trans (hb1.mono hYz)⟩
      · by_cases g2 : slots - x.fi < x.wd
        · rw [if_pos (Or.inr (Or.inr g2))]
          clear hz
          go_enter Try.func110, Try.ntmps110
          go_wp2_with fail
          rw [← hY]
          clear hY
          obtain ⟨x0, x1, x2, x3, x4, x5, x6, x7, x8⟩ := CX Y (Below.refl _ _)
          go_wp2_with fail
          refine (iRf_any x.fr x.tt (H _ (Below.refl _ _)).out.1 (H _ (Below.refl _ _)).out.2 hcp hf hmb).mono ?_
          rintro e w1 ⟨rfl, hb1⟩
          rw [← HC.out]
          clear x0 x1 x2 x3 x4 x5 x6 x7 x8
          obtain ⟨x0, x1, x2, x3, x4, x5, x6, x7, x8⟩ := CX w1 hb1
          go_wp2
          go_ret
          exact ⟨rfl, BY.out.2.2.trans (hb1.mono hYz)⟩
        · rw [if_neg (by omega)]
          clear hz
          go_enter Try.func110, Try.ntmps110
          go_wp2_with fail
          rw [← hY]
          clear hY
          obtain ⟨x0, x1, x2, x3, x4, x5, x6, x7, x8⟩ := CX Y (Below.refl _ _)
          go_wp2_with fail
          refine (iRf_any x.fr x.tt (H _ (Below.refl _ _)).out.1 (H _ (Below.refl _ _)).out.2 hcp hf hmb).mono ?_
          rintro e w1 ⟨rfl, hb1⟩
          rw [← HC.out]
          clear x0 x1 x2 x3 x4 x5 x6 x7 x8
          obtain ⟨x0, x1, x2, x3, x4, x5, x6, x7, x8⟩ := CX w1 hb1
          go_wp2
          go_ret
          exact ⟨rfl, BY.out.2.2.trans (hb1.mono hYz)⟩
  · rw [if_neg hz]
    have hzb : (c != 0) = true := by simpa using hz
    clear hz
    go_enter Try.func110, Try.ntmps110
    go_wp2_with fail
    rw [← hY]
    clear hY
    obtain ⟨x0, x1, x2, x3, x4, x5, x6, x7, x8⟩ := CX Y (Below.refl _ _)
    go_wp2_with fail
    refine (iRf_any x.fr x.tt (H _ (Below.refl _ _)).out.1 (H _ (Below.refl _ _)).out.2 hcp hf hmb).mono ?_
    rintro e w1 ⟨rfl, hb1⟩
    rw [← HC.out]
    clear x0 x1 x2 x3 x4 x5 x6 x7 x8
    obtain ⟨x0, x1, x2, x3, x4, x5, x6, x7, x8⟩ := CX w1 hb1
    go_wp2
    go_ret
    exact ⟨rfl, BY.out.2.2.trans (hb1.mono hYz)⟩
/-- Slot t of a light, as two cells. -/
def scell (x : Li) (t : Nat) : Nat → Value
  | 0 => .int .i64 (Nt.slF x t)
  | _ => .int .i64 (Nt.slS x t)
def sls (x : Li) (t : Nat) : List Value := [.int .i64 (Nt.slF x t), .int .i64 (Nt.slS x t)]
theorem infoSl : (Try.prog.info? 145).map (fun i => (i.zero, i.size, i.bytes)) = some (some (.agg #[.int .i64 0, .int .i64 0]), 2, 16) := by kernel_rfl
theorem sl_div (x : Li) {a i W : Nat} (hW : x.wd.toNat = W) (hi : i < W) : Nt.slF x (a * W + i) = x.p a ∧ Nt.slS x (a * W + i) = x.fi + i := by
  subst hW
  have h0 : 0 < x.wd.toNat := by omega
  unfold Nt.slF Nt.slS
  rw [Nat.mul_comm, Nat.mul_add_div h0, Nat.div_eq_of_lt hi, Nat.mul_add_mod, Nat.mod_eq_of_lt hi]
  exact ⟨rfl, rfl⟩
set_option maxRecDepth 20000 in
set_option maxHeartbeats 3200000 in
theorem slotsOf_any {w : World} {po : Option Addr} {m pc : Nat} (x : Li) (hp : RdRow w (.slice po m pc) m x.p) (hm : m ≤ 8) (w1 : 1 ≤ x.wd) (w64 : x.wd ≤ 64) (f0 : 0 ≤ x.fi) (f64 : x.fi ≤ 64) :
    Calls Try.prog 119 #[.agg #[.int .i64 x.id, .int .i64 x.fr, .int .i64 x.tt, .slice po m pc, .int .i64 x.fi, .int .i64 x.wd]] w fun e w' => ∃ v, e = .returned v ∧ w'.ownsRow w.heap.size 145 2 v (m * x.wd.toNat) (flat (sls x) (m * x.wd.toNat)) ∧ Below w.heap.size w w' := by
  obtain ⟨wd, hwd⟩ : ∃ wd : Nat, x.wd = (wd : Int) := ⟨x.wd.toNat, by omega⟩
  have HW : Hid (x.wd.toNat = wd) := by show x.wd.toNat = wd; omega
  rw [show x.wd.toNat = wd by omega, hwd]
  rw [hwd] at w1 w64
  clear hwd
  obtain ⟨X, hX⟩ : ∃ X, X = w.alloc (.cells #[.int .i64 x.id, .int .i64 x.fr, .int .i64 x.tt, .slice po m pc, .int .i64 x.fi, .int .i64 wd] 80) := ⟨_, rfl⟩
  have BX : Hid (Blk X w.heap.size #[.int .i64 x.id, .int .i64 x.fr, .int .i64 x.tt, .slice po m pc, .int .i64 x.fi, .int .i64 wd] 80 ∧ Below w.heap.size w X) := by rw [hX]; exact ⟨Blk.new rfl, (Below.refl _ _).alloc (Nat.le_refl _) _⟩
  have hXz : w.heap.size ≤ X.heap.size := Nat.le_of_lt BX.out.1.lt
  have CX : ∀ W, Below X.heap.size X W → W.cell? ⟨w.heap.size, 3, none⟩ = some (.slice po m pc) ∧ W.cell? ⟨w.heap.size, 4, none⟩ = some (.int .i64 x.fi) ∧ W.cell? ⟨w.heap.size, 5, none⟩ = some (.int .i64 wd) := fun W h => ⟨(BX.out.1.old h).cell rfl, (BX.out.1.old h).cell rfl, (BX.out.1.old h).cell rfl⟩
  have H : ∀ W, Below X.heap.size X W → Hid (RdRow W (.slice po m pc) m x.p) := fun W hb => hp.later (BX.out.2.trans (hb.mono hXz))
  clear hp
  have hwd1 : 1 ≤ wd := by omega
  have hwd64 : wd ≤ 64 := by omega
  have hmI : (m : Int) ≤ 8 := by omega
  go_enter Try.func119, Try.ntmps119
  go_wp2_with fail
  rw [show (w.alloc (.cells #[.int .i64 x.id, .int .i64 x.fr, .int .i64 x.tt, .slice po m pc, .int .i64 x.fi, .int .i64 wd] 80)) = X from hX.symm]
  clear hX
  go_loopw [3, 10] (fun v i wr => ∃ k : Nat, k ≤ m ∧ i = .int .i64 k ∧ Hid (wr.ownsRow X.heap.size 145 2 v (k * wd) (flat (sls x) (k * wd)) ∧ Below X.heap.size X wr)) (fun _ i _ => m - (intOf i).toNat)
  case atStart => exact ⟨0, Nat.zero_le _, rfl, by rw [Nat.zero_mul]; exact ownsV_nil _ _ _ _, Below.refl _ _⟩
  case round =>
    obtain ⟨k, hk, rfl, HR⟩ := hrel
    by_cases hkm : k < m
    · obtain ⟨b, off, hpo, hpc⟩ := (H wr HR.out.2).out.at hkm
      subst hpo
      obtain ⟨f, hf⟩ : ∃ f, f = x.p k := ⟨_, rfl⟩
      rw [← hf] at hpc
      have HFk : Hid (f = x.p k) := hf
      clear hf
      obtain ⟨x0, x1, x2⟩ := CX wr HR.out.2
      have hkI : (k : Int) < m := by omega
      go_wp2_with fail
      clear x0 x1 x2 hpc
      go_loopw [3, 16] (fun v i wr => ∃ i' : Nat, i' ≤ wd ∧ i = .int .i64 i' ∧ Hid (wr.ownsRow X.heap.size 145 2 v (k * wd + i') (flat (sls x) (k * wd + i')) ∧ Below X.heap.size X wr)) (fun _ i _ => wd - (intOf i).toNat)
      case atStart => exact ⟨0, Nat.zero_le _, rfl, HR.out⟩
      case round =>
        obtain ⟨i, hi, rfl, HQ⟩ := hrel
        by_cases hiw : i < wd
        · have hxs := HQ.out.2.size
          obtain ⟨x0, x1, x2⟩ := CX wr HQ.out.2
          have hn : k * wd + i ≤ 1000 := by have : k * wd ≤ 8 * 64 := Nat.mul_le_mul (by omega) (by omega); omega
          have HN0 : Hid (k * wd + i ≤ 1000000000) := by show k * wd + i ≤ 1000000000; omega
          have hiI : (i : Int) < wd := by omega
          have HS : Hid (Nt.slF x (k * wd + i) = f ∧ Nt.slS x (k * wd + i) = x.fi + i) := by have := sl_div x (a := k) HW.out hiw; rw [HFk.out]; exact this
          have hsI : x.fi + (i : Int) ≤ 200 := by omega
          clear hn
          go_wp2_with (first | (at_builtin; refine pushV rfl (.tmp 19) (.tmp 26) 151 rfl 145 (.agg #[.int .i64 0, .int .i64 0]) 2 16 Try.underlying151 infoSl rfl (by decide) (by decide) _ [.int .i64 f, .int .i64 (x.fi + i)] rfl (by simp [Value.oneCell']) X.heap.size _ (k * wd + i) _ rfl HQ.out.1 1 rfl HN0.out hxs ?_; intro v1 w3 own3 grow3 nn3))
          have HN : Hid (w3.ownsRow X.heap.size 145 2 v1 (k * wd + (i + 1)) (flat (sls x) (k * wd + (i + 1))) ∧ Below X.heap.size X w3) := by
            refine ⟨?_, pushV_below HQ.out.1 grow3 HQ.out.2 hxs⟩
            rw [← Nat.add_assoc, flat_succ]
            unfold sls
            rw [HS.out.1, HS.out.2]
            exact own3
          clear own3 grow3 nn3 x0 x1 x2
          go_wp2
          go_roundw
          case rel => exact ⟨i + 1, by omega, by simp, HN⟩
          case measure => simp [intOf]; omega
        · obtain rfl : i = wd := by omega
          have HN : Hid (wr.ownsRow X.heap.size 145 2 u3 ((k + 1) * i) (flat (sls x) ((k + 1) * i)) ∧ Below X.heap.size X wr) := by rw [Nat.add_mul, Nat.one_mul]; exact HQ.out
          go_wp2
          go_roundw
          case rel => exact ⟨k + 1, by omega, by simp, HN⟩
          case measure => simp [intOf]; omega
    · obtain rfl : k = m := by omega
      go_wp2
      go_ret
      refine ⟨_, rfl, ?_, BX.out.2.trans (HR.out.2.mono hXz)⟩
      obtain ⟨q0, q | ⟨g, cap, cur, a1, a2, a3⟩⟩ := HR.out.1
      · exact ⟨q0, Or.inl q⟩
      · exact ⟨q0, Or.inr ⟨g, cap, cur, a1, by omega, a3⟩⟩
end Go.Proofs.Ytinfbbbgfkaioaa
