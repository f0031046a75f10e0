/- What is left of an index, how a light goes on in a medium: both packages, one class of floats. -/
import Derived.Test.YtnpcldgacdgplaaTs
import Derived.Test.YtnpcldgacdgplaaZab
import Derived.Test.YtnpcldgacdgplaaZp
import Derived.Deep.DeepCutAuto
namespace Go.Proofs.Ytnpcldgacdgplaa
open Go.RowKit Fl
set_option linter.unusedVariables false
set_option linter.unusedSimpArgs false
theorem sqK_root (o : Option Nat) : sqK o = rootC o := rfl
theorem fc_own {x : Nat} (h : x < 18446744073709551616) : Fc x (cl x) := ⟨h, rfl⟩
theorem gt_of_fc {x : Nat} {o : Option Nat} (h : Fc x o) : (FloatKind.f64.format.order x 0 == some .gt) = gt0 o := by
  rw [← h.c]
  by_cases n : Num x
  · rw [cl_of_num n]; rfl
  · rw [show cl x = none by unfold cl; rw [if_neg n]]
    rw [show FloatKind.f64.format.order x 0 = none from order_nan_l 0 h.lx n]
    rfl
/-- How many draws a float's operation makes. -/
def opN (op : BinOp) (x y : Nat) : Nat := if (floatBits op .f64 x y).isSome then 0 else 1
theorem opW_N (op : BinOp) (x y : Nat) (w : World) : opW op x y w = w.drewN (opN op x y) := by
  unfold opW opN
  split <;> rfl
theorem mulD : ∀ (x y : Nat) (t : TypeId) (w : World), (binOp .mul t (.float .f64 x) (.float .f64 y)).run Try.prog w = .ok (.float .f64 (opV .mul x y w)) (w.drewN (opN .mul x y)) := fun x y t w => by rw [← opW_N]; exact mul_run x y t w
theorem subD : ∀ (x y : Nat) (t : TypeId) (w : World), (binOp .sub t (.float .f64 x) (.float .f64 y)).run Try.prog w = .ok (.float .f64 (opV .sub x y w)) (w.drewN (opN .sub x y)) := fun x y t w => by rw [← opW_N]; exact sub_run x y t w
theorem addD : ∀ (x y : Nat) (t : TypeId) (w : World), (binOp .add t (.float .f64 x) (.float .f64 y)).run Try.prog w = .ok (.float .f64 (opV .add x y w)) (w.drewN (opN .add x y)) := fun x y t w => by rw [← opW_N]; exact add_run x y t w
theorem quoD : ∀ (x y : Nat) (t : TypeId) (w : World), (binOp .quo t (.float .f64 x) (.float .f64 y)).run Try.prog w = .ok (.float .f64 (opV .quo x y w)) (w.drewN (opN .quo x y)) := fun x y t w => by rw [← opW_N]; exact quo_run x y t w
def sideC (i s : Option Nat) : Option Nat := opC .mul (opC .mul i s) (opC .mul i s)
def fwdC (i s n : Option Nat) : Option Nat := rootC (leftC i s n)
def admC (pol : Int) (n q : Option Nat) : Option Nat := if pol = 2 then opC .quo (opC .mul n n) q else q
set_option maxHeartbeats 1600000 in
theorem sLeft_any {i s n : Nat} {p q r : Option Nat} (hi : Fc i p) (hs : Fc s q) (hn : Fc n r) (o : Nat) (v : Value) (nm pol : Int) (w : World) : FV 69 #[Sv i o v, Lv nm s pol, .float .f64 n] w (leftC p q r) := by
  unfold FV
  have hmul := mul_run
  have hsub := sub_run
  have hc1 := cell_opW
  go_enter Try.func69, Try.ntmps69
  go_wp2
  go_ret
  refine ⟨_, rfl, fc_op _ (fc_op _ hn hn _) (fc_op _ (fc_op _ hi hs _) (fc_op _ hi hs _) _) _, ?_⟩
  repeat (first | (refine below_opW ?_) | (refine Below.alloc ?_ (by simp <;> omega) _) | exact Below.refl _ _)
theorem below_alloc2 {w w1 : World} {a b : Obj} (h : Below ((w.alloc a).alloc b).heap.size ((w.alloc a).alloc b) w1) : Below w.heap.size w w1 :=
  (((Below.refl _ _).alloc (Nat.le_refl _) a).alloc (by simp) b).trans (h.mono (by simp <;> omega))
set_option maxHeartbeats 1600000 in
theorem sFwd_any {i s n : Nat} {p q r : Option Nat} (hi : Fc i p) (hs : Fc s q) (hn : Fc n r) (o : Nat) (v : Value) (nm pol : Int) (w : World) : FV 70 #[Sv i o v, Lv nm s pol, .float .f64 n] w (fwdC p q r) := by
  unfold FV
  have H : Hid (∀ w, FV 69 #[Sv i o v, Lv nm s pol, .float .f64 n] w (leftC p q r)) := sLeft_any hi hs hn o v nm pol
  clear hi hs hn
  go_enter Try.func70, Try.ntmps70
  go_wp2_with fail
  refine (H.out _).mono ?_
  rintro e w1 ⟨x, rfl, hx, b1⟩
  have A1 : Hid (Below w.heap.size w w1) := below_alloc2 b1
  clear b1
  go_wp2_with fail
  refine (sSqrt_fc hx _).mono ?_
  rintro e w2 ⟨y, q, rfl, hy, rfl⟩
  go_wp2
  go_ret
  exact ⟨_, rfl, hy, below_drewN A1.out _⟩
set_option maxHeartbeats 1600000 in
theorem sAdm_any {i s n : Nat} {p q r : Option Nat} (hi : Fc i p) (hs : Fc s q) (hn : Fc n r) (o : Nat) (v : Value) (nm pol : Int) (w : World) : FV 49 #[Sv i o v, Lv nm s pol, .float .f64 n] w (admC pol r (fwdC p q r)) := by
  unfold FV
  have H : Hid (∀ w, FV 70 #[Sv i o v, Lv nm s pol, .float .f64 n] w (fwdC p q r)) := sFwd_any hi hs hn o v nm pol
  have hmul := mul_run
  have hquo := quo_run
  have HN : Hid (Fc n r) := hn
  clear hi hs hn
  have E : ∀ W, Below ((w.alloc (.cells #[.float .f64 i, .float .f64 o, v] 30)).alloc (.cells #[.int .i64 nm, .float .f64 s, .int .i64 pol] 37)).heap.size ((w.alloc (.cells #[.float .f64 i, .float .f64 o, v] 30)).alloc (.cells #[.int .i64 nm, .float .f64 s, .int .i64 pol] 37)) W → W.cell? ⟨w.heap.size + 1, 2, none⟩ = some (.int .i64 pol) := fun W h => by
    rw [h.cell (by simp)]; simp
  unfold admC
  by_cases hp : pol = 2
  · subst hp
    rw [if_pos rfl]
    go_enter Try.func49, Try.ntmps49
    go_wp2_with fail
    refine (H.out _).mono ?_
    rintro e w1 ⟨x, rfl, hx, b1⟩
    have A1 : Hid (Below w.heap.size w w1) := below_alloc2 b1
    have c2 := E _ b1
    clear b1 E
    go_wp2
    go_ret
    exact ⟨_, rfl, fc_op _ (fc_op _ HN.out HN.out _) hx _, below_opW (below_opW A1.out)⟩
  · rw [if_neg hp]
    have hp' : (pol == 2) = false := by simpa using hp
    go_enter Try.func49, Try.ntmps49
    go_wp2_with fail
    refine (H.out _).mono ?_
    rintro e w1 ⟨x, rfl, hx, b1⟩
    have A1 : Hid (Below w.heap.size w w1) := below_alloc2 b1
    have c2 := E _ b1
    clear b1 E
    go_wp2
    go_ret
    exact ⟨_, rfl, hx, A1.out⟩
/-- What a stack's closure over its light has caught. -/
structure Med (W : World) (b k : Nat) (c : Option Nat) (pol : Int) : Prop where
  sq : ∃ x, W.cell? ⟨b, 0, none⟩ = some (.float .f64 x) ∧ Fc x c
  po : W.cell? ⟨k, 2, none⟩ = some (.int .i64 pol)
theorem Med.later {W W' : World} {b k : Nat} {c : Option Nat} {pol : Int} (h : Med W b k c pol) (hb : Below W.heap.size W W') : Med W' b k c pol := by
  obtain ⟨⟨x, hx, hc⟩, po⟩ := h
  exact ⟨⟨x, old_cell hb (World.block_lt_of_cell? _ _ hx) hx, hc⟩, old_cell hb (World.block_lt_of_cell? _ _ po) po⟩
abbrev Cl (b k : Nat) : Value := .func (.func 77) #[] #[.pointer (some ⟨b, 0, none⟩), .pointer (some ⟨k, 0, none⟩)]
set_option maxHeartbeats 1600000 in
theorem media_any {i s : Nat} {p q : Option Nat} (hi : Fc i p) (hs : Fc s q) (o : Nat) (v : Value) (nm pol : Int) (w : World) :
    Calls Try.prog 44 #[Sv i o v, Lv nm s pol] w fun e w' => ∃ b k, e = .returned (Cl b k) ∧ Med w' b k (sideC p q) pol ∧ Below w.heap.size w w' := by
  have hmul := mulD
  have hst := st64
  go_enter Try.func44, Try.ntmps44
  go_wp2
  go_ret
  refine ⟨_, _, rfl, ⟨?_, ?_⟩, ?_⟩
  · exact ⟨_, cell_alloc_new (by simp) rfl, fc_op _ (fc_op _ hi hs _) (fc_op _ hi hs _) _⟩
  · refine cell_alloc_old ?_
    simp
  · repeat (first | (refine below_drewN ?_ _) | (refine Below.setCell ?_ (by simp <;> omega) _) | (refine Below.alloc ?_ (by simp <;> omega) _) | exact Below.refl _ _)
set_option maxHeartbeats 3200000 in
theorem medium_any {n b k : Nat} {r c : Option Nat} {pol : Int} {w : World} (hn : Fc n r) (h : Med w b k c pol) :
    Calls Try.prog 77 #[.float .f64 n, .pointer (some ⟨b, 0, none⟩), .pointer (some ⟨k, 0, none⟩)] w fun e w' => ∃ f a, e = .returned (.agg #[.float .f64 f, .float .f64 a]) ∧ Fc f (rootC (opC .sub (opC .mul r r) c)) ∧ Fc a (admC pol r (rootC (opC .sub (opC .mul r r) c))) ∧ Below w.heap.size w w' := by
  obtain ⟨⟨x, hx, hc⟩, po⟩ := h
  have HN : Hid (Fc n r ∧ Fc x c) := ⟨hn, hc⟩
  clear hn hc
  have hb := World.block_lt_of_cell? _ _ hx
  have hk := World.block_lt_of_cell? _ _ po
  simp only at hb hk
  have hmul := mulD
  have hsub := subD
  have hquo := quoD
  have hst := st64
  have x1 : ∀ o, (w.alloc o).cell? ⟨b, 0, none⟩ = some (.float .f64 x) := fun o => cell_alloc_old hx
  have x2 : ∀ o, (w.alloc o).cell? ⟨k, 2, none⟩ = some (.int .i64 pol) := fun o => cell_alloc_old po
  unfold admC
  by_cases hp : pol = 2
  · subst hp
    rw [if_pos rfl]
    go_enter Try.func77, Try.ntmps77
    go_wp2_with fail
    refine (iSqrt_fc (fc_op .sub (fc_op .mul HN.out.1 HN.out.1 _) HN.out.2 _) _).mono ?_
    rintro e w2 ⟨y, q, rfl, hy, rfl⟩
    go_wp2
    refine bodyPost_ret (v := .agg #[.float .f64 y, .float .f64 _]) (by simp [results, Try.results77, go_sem]; rfl) rfl ⟨_, _, rfl, hy, fc_op _ (fc_op _ HN.out.1 HN.out.1 _) hy _, ?_⟩
    repeat (first | (refine below_drewN ?_ _) | (refine Below.setCell ?_ (by simp <;> omega) _) | (refine Below.alloc ?_ (by simp <;> omega) _) | exact Below.refl _ _)
  · rw [if_neg hp]
    have hp' : (pol == 2) = false := by simpa using hp
    go_enter Try.func77, Try.ntmps77
    go_wp2_with fail
    refine (iSqrt_fc (fc_op .sub (fc_op .mul HN.out.1 HN.out.1 _) HN.out.2 _) _).mono ?_
    rintro e w2 ⟨y, q, rfl, hy, rfl⟩
    go_wp2
    refine bodyPost_ret (v := .agg #[.float .f64 y, .float .f64 y]) (by simp [results, Try.results77, go_sem]) rfl ⟨_, _, rfl, hy, hy, ?_⟩
    repeat (first | (refine below_drewN ?_ _) | (refine Below.setCell ?_ (by simp <;> omega) _) | (refine Below.alloc ?_ (by simp <;> omega) _) | exact Below.refl _ _)
theorem fields71 : Try.prog.underlying 71 = some (.struct (Try.prog.fieldsOf 71)) ∧ Try.prog.stoodInHeld 71 = false := ⟨by kernel_rfl, by kernel_rfl⟩
theorem field71 (k : Nat) (a b : Nat) (w : World) (h : ((Try.prog.fieldsOf 71)[k]?).map (fun f => (f.type, f.offset)) = some (22, k)) (hk : k = 0 ∨ k = 1) : (Instr.field 71 (.agg #[.float .f64 a, .float .f64 b]) k).run Try.prog w = .ok (.float .f64 (if k = 0 then a else b)) w := by
  obtain ⟨f, hf, e⟩ := Option.map_eq_some_iff.1 h
  simp only [Prod.mk.injEq] at e
  obtain ⟨h1, h2⟩ := e
  have hh : (Try.prog.fieldsOf 71)[k]? = some f := hf
  rcases hk with rfl | rfl <;> simp [Instr.field, run_underlying fields71.1, hh, h1, h2, asAgg, part, isAgg, run_underlying Try.underlying22]
theorem field_f (a b : Nat) (w : World) : (Instr.field 71 (.agg #[.float .f64 a, .float .f64 b]) 0).run Try.prog w = .ok (.float .f64 a) w := field71 0 a b w (by kernel_rfl) (Or.inl rfl)
theorem field_a (a b : Nat) (w : World) : (Instr.field 71 (.agg #[.float .f64 a, .float .f64 b]) 1).run Try.prog w = .ok (.float .f64 b) w := field71 1 a b w (by kernel_rfl) (Or.inr rfl)
end Go.Proofs.Ytnpcldgacdgplaa
