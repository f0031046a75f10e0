/- The specification's transform by halves: contract, by recursion. -/
import Derived.Test.YtpkbpikdffbadaaDoorTr
import Derived.Maps.AppendAt
namespace Go.Proofs.YtpkbpikdffbadaaDoor
open Go.RowKit
set_option linter.unusedVariables false
theorem push_at {ops : Array Oper} {rest : List Oper} {o : Oper} {a : Act} {Q : Exit → Act → World → Prop} (hgd : o.guard = none) (s x : Operand) (t : TypeId)
    (ho : o.op = .call { callee := .builtin .append, args := #[s, x], argTypes := #[t, t] }) (e : TypeId) (z : Value) (bytes : Nat) (ht : Tryd.prog.underlying t = some (.slice e))
    (hinfo : (Tryd.prog.info? e).map (fun i => (i.zero, i.size, i.bytes)) = some (some z, 1, bytes)) (hz1 : z.cells.size = 1) (hby : bytes ≤ 24) (w : World) (u : Value) (hu : u.oneCell' = true)
    (base : Nat) (v : Value) (n : Nat) (xs : List Value) (hs : a.eval s = v) (hown : w.ownsRow base e 1 v n xs) (c : Nat) (hx : a.eval x = .slice (some ⟨w.heap.size, 0, none⟩) 1 c) (hn : n ≤ 1000000) (hbase : base ≤ w.heap.size)
    (h : ∀ v' w', w'.ownsRow base e 1 v' (n + 1) (xs ++ [u]) → (w.alloc (.cells #[u] e)).grownBy w' v.ownBlock → (v'.ownBlock = v.ownBlock ∨ v'.ownBlock = some (w.heap.size + 1)) → wpList Tryd.prog ops Q rest (a.put o.dst v') w') : wpList Tryd.prog ops Q (o :: rest) a (w.alloc (.cells #[u] e)) := by
  obtain ⟨i, h1, h2, h3, h4⟩ := info_parts hinfo
  refine wpList_append_own_at _ hgd s x t ho base e i z 1 bytes ht h1 h2 h3 h4 hz1 (by decide) v n xs hs (hown.alloc _) ⟨w.heap.size, 0, none⟩ 1 c [u] hx rfl ?_ ?_ ?_ ?_ ?_ fun v' w' a1 a2 _ a4 => h v' w' a1 a2 (by simpa using a4)
  · intro j y hj
    match j, hj with
    | 0, hj => simp at hj; subst hj; simp [Addr.add]
  · intro y hy
    simp at hy
    subst hy
    exact hu
  · unfold maxLen; omega
  · have : (n + 1) * bytes ≤ (n + 1) * 24 := Nat.mul_le_mul_left _ hby
    omega
  · simp; omega
theorem owns_grown {W W' : World} {base n : Nat} {t : TypeId} {v : Value} {xs : List Value} {ob : Option Nat} (h : W.ownsRow base t 1 v n xs) (hg : W.grownBy W' ob) (hne : ∀ q, v.ownBlock = some q → ob ≠ some q) : W'.ownsRow base t 1 v n xs := by
  obtain ⟨h0, h | ⟨g, cap, cur, hv, hg', hh, r⟩⟩ := h
  · exact ⟨h0, Or.inl h⟩
  · refine ⟨h0, Or.inr ⟨g, cap, cur, hv, hg', (hg.block g (Array.getElem?_eq_some_iff.1 hh).1 fun e => hne g (by rw [hv]; simp [Value.ownBlock]) e.symm).trans hh, r⟩⟩
/-- Two lists that are built side by side. -/
structure Y2 (w wr : World) (vx vy : Value) (f g : Nat → Int) (k l : Nat) : Prop where
  ox : wr.ownsRow w.heap.size 2 1 vx k (il f k)
  oy : wr.ownsRow w.heap.size 2 1 vy l (il g l)
  ne : ∀ q, vx.ownBlock = some q → vy.ownBlock ≠ some q
  be : Below w.heap.size w wr
theorem Y2.swap {w wr : World} {vx vy : Value} {f g : Nat → Int} {k l : Nat} (h : Y2 w wr vx vy f g k l) : Y2 w wr vy vx g f l k := ⟨h.oy, h.ox, fun q h1 h2 => h.ne q h2 h1, h.be⟩
theorem Y2.start (w : World) (f g : Nat → Int) : Y2 w ((w.alloc (.cells #[] 2)).alloc (.cells #[] 2)) (.slice (some ⟨w.heap.size, 0, none⟩) 0 0) (.slice (some ⟨w.heap.size + 1, 0, none⟩) 0 0) f g 0 0 := by
  refine ⟨?_, ?_, ?_, ((Below.refl _ _).alloc (Nat.le_refl _) _).alloc (by simp) _⟩
  · exact (owns_empty w 2).alloc _
  · have := owns_empty (w.alloc (.cells #[] 2)) 2
    obtain ⟨h0, ⟨h1, _⟩ | ⟨b, cap, cur, e1, e2, r⟩⟩ := this
    · cases h1
    · have hb : b = w.heap.size + 1 := by simp at e1; omega
      subst hb
      exact ⟨rfl, Or.inr ⟨w.heap.size + 1, 0, #[], rfl, by omega, by have := heap_alloc2_new w (.cells #[] 2) (.cells #[] 2); exact this, Nat.le_refl _, Nat.zero_le _, rfl, rfl⟩⟩
  · intro q h1 h2
    simp [Value.ownBlock] at h1 h2
    omega
theorem Y2.step {w wr w1 : World} {vx vy vn : Value} {f g : Nat → Int} {k l : Nat} {o : Obj} (h : Y2 w wr vx vy f g k l) (h1 : w1.ownsRow w.heap.size 2 1 vn (k + 1) (il f k ++ [.int .i64 (f k)])) (h2 : (wr.alloc o).grownBy w1 vx.ownBlock) (h3 : vn.ownBlock = vx.ownBlock ∨ vn.ownBlock = some (wr.heap.size + 1)) : Y2 w w1 vn vy f g (k + 1) l := by
  have hz := h.be.size
  have low : ∀ q, vx.ownBlock = some q → w.heap.size ≤ q := fun q hq => (h.ox.lt q hq).1
  refine ⟨by rw [← il_push]; exact h1, owns_grown (h.oy.alloc o) h2 (fun q hq e => h.ne q e hq), fun q hq hy => ?_, ?_⟩
  · rcases h3 with e | e
    · exact h.ne q (by rw [← e]; exact hq) hy
    · rw [e] at hq
      have := (h.oy.lt q hy).2
      have := Option.some.inj hq
      omega
  · exact (h.be.alloc h.be.size o).grown h2 (by simp; omega) fun q hq => low q hq
/-- What l11Sum answers. -/
def SA (k : Nat) (f : Nat → Int) (r : Int) (w : World) (e : Ending) (w' : World) : Prop :=
  ∃ g, e = .returned (.slice (some ⟨g, 0, none⟩) (2 ^ k) (2 ^ k)) ∧ w.heap.size ≤ g ∧ Seg w' g 2 0 (2 ^ k) (fun j => .int .i64 (Wv.ft k f r j)) ∧ Below w.heap.size w w'
def SC (k : Nat) : Prop := ∀ {w : World} {v : Value} {f : Nat → Int} (r : Int), RdRow w v (2 ^ k) f → Calls Tryd.prog 27 #[v, .int .i64 r] w (SA k f r w)
theorem sum_one : SC 0 := by
  intro w v f r hf
  obtain ⟨bf, of, capf, rfl, cf⟩ := hf.get (by decide)
  have c0 : w.cell? ⟨bf, of, none⟩ = some (.int .i64 (f 0)) := cf 0 (by decide)
  clear cf hf
  unfold SA
  rw [show (2 : Nat) ^ 0 = 1 from rfl]
  go_enter Tryd.func27, Tryd.ntmps27
  go_wp2_with fail
  refine (l2Mod_any _ _).mono ?_
  rintro e w1 ⟨rfl, rfl⟩
  go_wp2
  go_ret
  refine ⟨w.heap.size, rfl, Nat.le_refl _, ⟨_, heap_alloc_new _ _, fun i hi => ?_⟩, (Below.refl _ _).alloc (Nat.le_refl _) _⟩
  obtain rfl : i = 0 := by omega
  rfl
/-- What is summed, number by number. -/
def Gm (h : Nat) (r : Int) (E O : Nat → Int) (i : Nat) : Int := if i < h then Rm.addM (E i) (Rm.mulM (Rm.powM r i) (O i)) else Rm.addM (E (i - h)) (-(Rm.mulM (Rm.powM r (i - h)) (O (i - h))))
set_option maxHeartbeats 4000000 in
theorem sum_step (k : Nat) (hk : k < 10) (ih : SC k) : SC (k + 1) := by
  intro w v f r hf
  obtain ⟨h, hh⟩ : ∃ h, h = 2 ^ k := ⟨_, rfl⟩
  obtain ⟨N, hN⟩ : ∃ N, N = 2 ^ (k + 1) := ⟨_, rfl⟩
  have hNh : N = 2 * h := by rw [hN, hh, Nat.pow_succ]; omega
  have hp1 := Wv.pow10 (k := k) (by omega)
  rw [← hh] at hp1
  obtain ⟨h0, h1⟩ := hp1
  obtain ⟨E, hE⟩ : ∃ E, E = Wv.ft k (fun i => f (2 * i)) (Rm.mulM r r) := ⟨_, rfl⟩
  obtain ⟨O, hO⟩ : ∃ O, O = Wv.ft k (fun i => f (2 * i + 1)) (Rm.mulM r r) := ⟨_, rfl⟩
  have HF : Hid (∀ i, Wv.ft (k + 1) f r i = Gm h r E O i) := fun i => by rw [hE, hO, hh]; rfl
  unfold SC SA at ih
  unfold SA
  rw [← hN] at hf ⊢
  have IE : Hid (∀ {w : World} {v : Value}, RdRow w v h (fun i => f (2 * i)) → Calls Tryd.prog 27 #[v, .int .i64 (Rm.mulM r r)] w fun e w' => ∃ g, e = .returned (.slice (some ⟨g, 0, none⟩) h h) ∧ w.heap.size ≤ g ∧ Seg w' g 2 0 h (fun j => .int .i64 (E j)) ∧ Below w.heap.size w w') := by
    intro w v a; rw [hE]; rw [hh] at a ⊢; exact ih _ a
  have IHo : Hid (∀ {w : World} {v : Value}, RdRow w v h (fun i => f (2 * i + 1)) → Calls Tryd.prog 27 #[v, .int .i64 (Rm.mulM r r)] w fun e w' => ∃ g, e = .returned (.slice (some ⟨g, 0, none⟩) h h) ∧ w.heap.size ≤ g ∧ Seg w' g 2 0 h (fun j => .int .i64 (O j)) ∧ Below w.heap.size w w') := by
    intro w v a; rw [hO]; rw [hh] at a ⊢; exact ih _ a
  have hNd : (N : Int) / 2 = (h : Int) := by omega
  have hN1 : ((N : Int) == 1) = false := by rw [beq_eq_false_iff_ne]; omega
  have hmk := run_make_row' (P := Tryd.prog) 22 2 (.int .i64 0) 8 Tryd.underlying22 info2 rfl .i64 .i64 N (by omega) (by omega)
  obtain ⟨bf, of, capf, rfl, cf⟩ := hf.get (by omega)
  have CF : Hid (∀ W, Below w.heap.size w W → ∀ i, i < N → W.cell? ⟨bf, of + i, none⟩ = some (.int .i64 (f i))) := fun W hb i hi => (hb.cell (World.block_lt_of_cell? _ _ (cf i hi))).trans (cf i hi)
  have HN : Hid (N = 2 * h) := hNh
  have hN2 : N ≤ 2048 := by omega
  clear hf cf hE hO hh hN hNh ih hk
  go_enter Tryd.func27, Tryd.ntmps27
  go_wp2_with fail
  go_loopw [6, 7, 8] (fun ve vo i wr => ∃ j : Nat, j ≤ h ∧ i = .int .i64 ((2 * j : Nat) : Int) ∧ Hid (Y2 w wr ve vo (fun i => f (2 * i)) (fun i => f (2 * i + 1)) j j)) (fun _ _ i _ => N - (intOf i).toNat)
  case atStart => exact ⟨0, Nat.zero_le _, rfl, Y2.start w _ _⟩
  case round =>
    obtain ⟨j, hj, rfl, HY⟩ := hrel
    by_cases hjh : j < h
    · obtain ⟨q, hq⟩ : ∃ q, q = 2 * j := ⟨_, rfl⟩
      have hqN : q + 1 < N := by have := HN.out; omega
      have HQ : Hid (q = 2 * j) := hq
      have gf : wr.cell? ⟨bf, of + q, none⟩ = some (.int .i64 (f q)) := CF.out _ HY.out.be q (by omega)
      have O1 : Hid (wr.ownsRow w.heap.size 2 1 u6 j (il (fun i => f (2 * i)) j)) := HY.out.ox
      have Z1 : w.heap.size ≤ wr.heap.size := HY.out.be.size
      have hjI : j ≤ 1000000 := by omega
      rw [← hq]
      clear hq hmk hNd hN1
      go_wp2_with (first | (at_builtin; refine push_at rfl (.tmp 31) (.tmp 36) 22 rfl 2 (.int .i64 0) 8 Tryd.underlying22 info2 rfl (by decide) wr (.int .i64 (f q)) rfl w.heap.size u6 j _ rfl O1.out 1 rfl hjI Z1 ?_; intro v1 w3 own3 grow3 at3; have HY3 : Hid (Y2 w w3 v1 u7 (fun i => f (2 * i)) (fun i => f (2 * i + 1)) (j + 1) j) := HY.out.step (by have := HQ.out; subst this; exact own3) grow3 at3; have gg : w3.cell? ⟨bf, of + (q + 1), none⟩ = some (.int .i64 (f (q + 1))) := CF.out _ HY3.out.be (q + 1) (by omega); have O3 : Hid (w3.ownsRow w.heap.size 2 1 u7 j (il (fun i => f (2 * i + 1)) j)) := HY3.out.oy; have Z3 : w.heap.size ≤ w3.heap.size := HY3.out.be.size; clear own3 grow3 at3 gf O1 Z1) | (at_builtin; refine push_at rfl (.tmp 38) (.tmp 44) 22 rfl 2 (.int .i64 0) 8 Tryd.underlying22 info2 rfl (by decide) w3 (.int .i64 (f (q + 1))) rfl w.heap.size u7 j _ rfl O3.out 1 rfl hjI Z3 ?_; intro v4 w4 own4 grow4 at4; have HY4 : Hid (Y2 w w4 v1 v4 (fun i => f (2 * i)) (fun i => f (2 * i + 1)) (j + 1) (j + 1)) := (HY3.out.swap.step (by have := HQ.out; subst this; exact own4) grow4 at4).swap; clear own4 grow4 at4 gg O3 Z3))
      have hq2 := HQ.out
      exact ⟨⟨j + 1, by omega, by congr 1; omega, HY4⟩, by simp [intOf]; omega⟩
    · obtain rfl : j = h := by omega
      have HN2 : ((2 * j : Nat) : Int) = (N : Int) := by have := HN.out; omega
      rw [HN2]
      obtain ⟨xe, ce, he⟩ : ∃ x c, u6 = .slice (some ⟨x, 0, none⟩) j c := by
        obtain ⟨g, cap, e, _⟩ := owned_seg HY.out.ox h0
        exact ⟨g, cap, e⟩
      obtain ⟨xo, co, ho⟩ : ∃ x c, u7 = .slice (some ⟨x, 0, none⟩) j c := by
        obtain ⟨g, cap, e, _⟩ := owned_seg HY.out.oy h0
        exact ⟨g, cap, e⟩
      subst he
      subst ho
      have RE : Hid (RdRow wr (.slice (some ⟨xe, 0, none⟩) j ce) j (fun i => f (2 * i))) := owned_rd HY.out.ox
      have RO : Hid (RdRow wr (.slice (some ⟨xo, 0, none⟩) j co) j (fun i => f (2 * i + 1))) := owned_rd HY.out.oy
      have BW : Hid (Below w.heap.size w wr) := HY.out.be
      clear HY CF HN2 hN1
      go_wp2_with fail
      refine (sMul_any _ _ _).mono ?_
      rintro e w1 ⟨rfl, rfl⟩
      go_wp2_with fail
      refine (IE.out RE.out).mono ?_
      rintro e w3 ⟨ge, rfl, hge, hss, hbb⟩
      have B3 : Hid (Below w.heap.size w w3) := BW.out.trans (hbb.mono BW.out.size)
      have RO3 : Hid (RdRow w3 (.slice (some ⟨xo, 0, none⟩) j co) j (fun i => f (2 * i + 1))) := RO.out.later hbb
      have E3 : Hid (Seg w3 ge 2 0 j (fun i => .int .i64 (E i))) := hss
      clear hss hbb hge BW RO RE IE
      go_wp2_with fail
      refine (sMul_any _ _ _).mono ?_
      rintro e w1 ⟨rfl, rfl⟩
      go_wp2_with fail
      refine (IHo.out RO3.out).mono ?_
      rintro e w5 ⟨go, rfl, hgo, hss, hbb⟩
      have B5 : Hid (Below w.heap.size w w5) := B3.out.trans (hbb.mono B3.out.size)
      have E5 : Hid (Seg w5 ge 2 0 j (fun i => .int .i64 (E i))) := E3.out.later hbb
      have O5 : Hid (Seg w5 go 2 0 j (fun i => .int .i64 (O i))) := hss
      clear hss hbb hgo B3 E3 RO3 IHo
      have KE : Hid (∀ W, Below w5.heap.size w5 W → ∀ i, i < j → W.cell? ⟨ge, i, none⟩ = some (.int .i64 (E i))) := fun W hb i hi => by
        have := (E5.out.later hb).cell hi
        rwa [Nat.zero_add] at this
      have KO : Hid (∀ W, Below w5.heap.size w5 W → ∀ i, i < j → W.cell? ⟨go, i, none⟩ = some (.int .i64 (O i))) := fun W hb i hi => by
        have := (O5.out.later hb).cell hi
        rwa [Nat.zero_add] at this
      clear E5 O5
      go_wp2_with fail
      clear hmk
      go_loopw [12, 13] (fun x i wr => ∃ m : Nat, m ≤ j ∧ i = .int .i64 m ∧ x = .int .i64 (Rm.powM r m) ∧ Hid (Seg wr w5.heap.size 2 0 N (fun i => if i < m ∨ (j ≤ i ∧ i < j + m) then .int .i64 (Gm j r E O i) else .int .i64 0) ∧ Below w5.heap.size w5 wr)) (fun _ i _ => j - (intOf i).toNat)
      case atStart => exact ⟨0, Nat.zero_le _, rfl, by rw [Wv.powM_zero], (seg_made w5 _ N 2).congr (fun i _ => by rw [if_neg (by omega)]), (Below.refl _ _).alloc (Nat.le_refl _) _⟩
      case round =>
        obtain ⟨m, hm, rfl, rfl, HS⟩ := hrel
        by_cases hmj : m < j
        · obtain ⟨q, hq⟩ : ∃ q, q = m + j := ⟨_, rfl⟩
          have hqI : (m : Int) + (j : Int) = (q : Int) := by omega
          have hqN : q < N := by have := HN.out; omega
          have hmN : m < N := by omega
          have HQ : Hid (q = m + j) := hq
          have hb0 : Below w5.heap.size w5 wr := HS.out.2
          have kE : wr.cell? ⟨ge, m, none⟩ = some (.int .i64 (E m)) := KE.out _ hb0 m hmj
          have kO : wr.cell? ⟨go, m, none⟩ = some (.int .i64 (O m)) := KO.out _ hb0 m hmj
          have g2 : wr.cell? ⟨w5.heap.size, m, none⟩ = some (.int .i64 0) := by
            have := HS.out.1.cell hmN
            rw [if_neg (by omega), Nat.zero_add] at this
            exact this
          have g3 : wr.frozen? ⟨w5.heap.size, m, none⟩ = false := HS.out.1.frozen m
          obtain ⟨t, ht⟩ : ∃ t, t = Rm.mulM (Rm.powM r m) (O m) := ⟨_, rfl⟩
          have t1 : 0 ≤ t := by rw [ht]; exact Rm.mulM_lo _ _
          have t2 : t < 998244353 := by rw [ht]; exact Rm.mulM_hi _ _
          have HT : Hid (Rm.mulM (Rm.powM r m) (O m) = t) := ht.symm
          clear ht hq
          go_wp2_with fail
          refine (sMul_any _ _ _).mono ?_
          rintro e w1 ⟨rfl, rfl⟩
          rw [HT.out]
          go_wp2_with fail
          refine (sAdd_any _ _ _).mono ?_
          rintro e w1 ⟨rfl, rfl⟩
          go_upto_region 20 with fail
          obtain ⟨wd, hwd⟩ : ∃ W, W = wr.setCell ⟨w5.heap.size, m, none⟩ (.int .i64 (Rm.addM (E m) t)) := ⟨_, rfl⟩
          rw [← hwd]
          have HD : Hid (Seg wd w5.heap.size 2 0 N (fun i => if i < m + 1 ∨ (j ≤ i ∧ i < j + m) then .int .i64 (Gm j r E O i) else .int .i64 0) ∧ Below w5.heap.size w5 wd) := by
            rw [hwd]
            refine ⟨?_, HS.out.2.setCell (Nat.le_refl _) _⟩
            have := HS.out.1.set m hmN (.int .i64 (Rm.addM (E m) t))
            rw [Nat.zero_add] at this
            refine this.congr fun i hi => ?_
            by_cases e : i = m
            · subst e
              rw [if_pos rfl, if_pos (by omega)]
              unfold Gm
              rw [if_pos hmj, HT.out]
            · rw [if_neg e]
              by_cases e2 : i < m ∨ (j ≤ i ∧ i < j + m)
              · rw [if_pos e2, if_pos (by omega)]
              · rw [if_neg e2, if_neg (by omega)]
          have kE2 : wd.cell? ⟨ge, m, none⟩ = some (.int .i64 (E m)) := KE.out _ HD.out.2 m hmj
          have y2 : wd.cell? ⟨w5.heap.size, q, none⟩ = some (.int .i64 0) := by
            have := HD.out.1.cell hqN
            rw [if_neg (by have := HQ.out; omega), Nat.zero_add] at this
            exact this
          have y3 : wd.frozen? ⟨w5.heap.size, q, none⟩ = false := HD.out.1.frozen q
          clear hwd g2 g3 hb0 kE kO
          go_wp2_with fail
          refine (sAdd_any _ _ _).mono ?_
          rintro e w1 ⟨rfl, rfl⟩
          go_wp2_with fail
          refine (sMul_any _ _ _).mono ?_
          rintro e w1 ⟨rfl, rfl⟩
          rw [← Wv.powM_succ]
          go_wp2
          go_roundw
          case rel =>
            refine ⟨m + 1, by omega, by simp, rfl, ?_⟩
            refine ⟨?_, HD.out.2.setCell (Nat.le_refl _) _⟩
            have := HD.out.1.set q hqN (.int .i64 (Rm.addM (E m) (-t)))
            rw [Nat.zero_add] at this
            refine this.congr fun i hi => ?_
            by_cases e : i = q
            · subst e
              rw [if_pos rfl, if_pos (by have := HQ.out; omega)]
              unfold Gm
              rw [if_neg (by have := HQ.out; omega), show i - j = m by have := HQ.out; omega, HT.out]
            · rw [if_neg e]
              by_cases e2 : i < m + 1 ∨ (j ≤ i ∧ i < j + m)
              · rw [if_pos e2, if_pos (by have := HQ.out; omega)]
              · rw [if_neg e2, if_neg (by have := HQ.out; omega)]
          case measure => simp [intOf]; omega
        · obtain rfl : m = j := by omega
          have HR : Hid (Seg wr w5.heap.size 2 0 N (fun i => .int .i64 (Wv.ft (k + 1) f r i)) ∧ Below w.heap.size w wr ∧ w.heap.size ≤ w5.heap.size) :=
            ⟨HS.out.1.congr fun i hi => by rw [if_pos (by have := HN.out; omega), HF.out], B5.out.trans (HS.out.2.mono B5.out.size), B5.out.size⟩
          clear HS KE KO
          go_wp2
          go_ret
          exact ⟨w5.heap.size, rfl, HR.out.2.2, HR.out.1, HR.out.2.1⟩
theorem sum_any : ∀ k, k ≤ 10 → SC k
  | 0, _ => sum_one
  | k + 1, h => sum_step k (by omega) (sum_any k (by omega))
end Go.Proofs.YtpkbpikdffbadaaDoor
