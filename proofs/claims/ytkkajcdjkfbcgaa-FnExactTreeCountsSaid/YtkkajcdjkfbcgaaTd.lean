/- A tree of splitters: the specification. -/
import Derived.Test.YtkkajcdjkfbcgaaTc
import Derived.Handy
import Derived.Deep.RegionHeld3
namespace Go.Proofs.Ytkkajcdjkfbcgaa
open Go.RowKit
set_option linter.unusedVariables false
set_option linter.unusedSimpArgs false
theorem push2_law {ops : Array Oper} {rest : List Oper} {o : Oper} {a : Act} {Q : Exit → Act → World → Prop} (hgd : o.guard = none) (s x : Operand) (t : TypeId)
    (ho : o.op = .call { callee := .builtin .append, args := #[s, x], argTypes := #[t, t] }) (e : TypeId) (z : Value) (m bytes : Nat) (ht : Try.prog.underlying t = some (.slice e))
    (hinfo : (Try.prog.info? e).map (fun i => (i.zero, i.size, i.bytes)) = some (some z, m, bytes)) (hz1 : z.cells.size = m) (hm : 0 < m) (hby : bytes ≤ 100) (w : World) (us : List Value) (hul : us.length = 2 * m) (hu : ∀ u ∈ us, u.oneCell' = true)
    (base : Nat) (v : Value) (n : Nat) (xs : List Value) (hs : a.eval s = v) (hown : w.ownsRow base e m v n xs) (c : Nat) (hx : a.eval x = .slice (some ⟨w.heap.size, 0, none⟩) 2 c) (hn : n ≤ 1000000000) (hbase : base ≤ w.heap.size)
    (h : ∀ v' w', w'.ownsRow base e m v' (n + 2) (xs ++ us) → (w.alloc (.cells us.toArray e)).grownBy w' v.ownBlock → v' ≠ .slice none 0 0 → wpList Try.prog ops Q rest (a.put o.dst v') w') : wpList Try.prog ops Q (o :: rest) a (w.alloc (.cells us.toArray e)) := by
  obtain ⟨i, h1, h2, h3, h4⟩ := info_parts hinfo
  refine wpList_append_own _ hgd s x t ho base e i z m bytes ht h1 h2 h3 h4 hz1 hm v n xs hs (hown.alloc _) ⟨w.heap.size, 0, none⟩ 2 c us hx (by omega) ?_ hu ?_ ?_ ?_ fun v' w' a1 a2 a3 => h v' w' a1 a2 ?_
  · intro j y hj
    have : (w.alloc (.cells us.toArray e)).heap[w.heap.size]? = some (.cells us.toArray e) := heap_alloc_new _ _
    have e0 : (⟨w.heap.size, 0, none⟩ : Addr).add j = ⟨w.heap.size, j, none⟩ := by
      unfold Addr.add
      split
      · rename_i h; subst h; rfl
      · simp
    rw [e0]
    unfold World.cell?
    rw [this]
    simpa using hj
  · unfold maxLen; omega
  · have : (n + 2) * bytes ≤ (n + 2) * 100 := Nat.mul_le_mul_left _ hby
    omega
  · simp; omega
  · intro e
    have := (a3.1 e).2
    omega
theorem owns_under {w w' : World} {base n m a c : Nat} {t : TypeId} {v : Value} {xs : List Value} (h : w.ownsRow base t m v n xs) (k : Within a c w w') (hc : c ≤ base) : w'.ownsRow base t m v n xs := by
  obtain ⟨h0, h | ⟨g, cap, cur, hv, hg, hh, r⟩⟩ := h
  · exact ⟨h0, Or.inl h⟩
  · exact ⟨h0, Or.inr ⟨g, cap, cur, hv, hg, (k.above g (by omega) (Array.getElem?_eq_some_iff.1 hh).1).trans hh, r⟩⟩
theorem owns_form2 {w : World} {base n m : Nat} {t : TypeId} {v : Value} {xs : List Value} (h : w.ownsRow base t m v (n + 2) xs) : ∃ g cp, v = .slice (some ⟨g, 0, none⟩) (n + 2) cp := by
  obtain ⟨h0, h | ⟨g, cap, cur, hv, r⟩⟩ := h
  · exact absurd h.2 (by omega)
  · exact ⟨g, cap, hv⟩
theorem own_keep {w w1 : World} {base n m b : Nat} {t t2 : TypeId} {v : Value} {xs : List Value} {o : Obj} {cs : Array Value} (h : w.ownsRow base t m v n xs) (hg : (w.alloc o).grownBy w1 v.ownBlock) (hb : Blk w b cs t2) (ht : t ≠ t2) : Blk w1 b cs t2 := by
  have hlt := hb.lt
  have hne : some b ≠ v.ownBlock := by
    obtain ⟨h0, h | ⟨g, cap, cur, hv, hgg, hh, r⟩⟩ := h
    · rw [h.1]; simp [Value.ownBlock]
    · rw [hv]
      intro e
      simp [Value.ownBlock] at e
      subst e
      have hq := hb.symm.trans hh
      simp at hq
      exact ht hq.2.symm
  exact (hg.block b (by simp; omega) hne).trans (hb.alloc o)
theorem OwS.low {t : TypeId} {lo hi lo' hi' : Nat} {w : World} {v : Value} {n : Nat} {F : Nat → Value} (h : OwS t lo hi w v n F) (h1 : lo' ≤ lo) (h2 : hi ≤ hi') : OwS t lo' hi' w v n F := by
  rcases h with ⟨e1, e2⟩ | ⟨g, cp, e1, q1, q2, q3⟩
  · exact Or.inl ⟨e1, e2⟩
  · exact Or.inr ⟨g, cp, e1, by omega, by omega, q3⟩
theorem OwS.keep {t : TypeId} {lo hi B : Nat} {w w' : World} {v : Value} {n : Nat} {F : Nat → Value} (h : OwS t lo hi w v n F) (b : Below B w w') (hB : hi ≤ B) : OwS t lo hi w' v n F := by
  rcases h with ⟨e1, e2⟩ | ⟨g, cp, e1, q1, q2, q3⟩
  · exact Or.inl ⟨e1, e2⟩
  · exact Or.inr ⟨g, cp, e1, q1, q2, q3.of_block (b.block g (by omega))⟩
theorem pow_le6 {k : Nat} (h : k ≤ 6) : 2 ^ k ≤ 64 := Nat.pow_le_pow_right (by decide) h (n := 2)
structure Tgood (p l s : Int) : Prop where
  p0 : 0 ≤ p
  p1 : p ≤ 4096
  l0 : 0 ≤ l
  l1 : l ≤ 6
  s0 : 0 ≤ s
  s1 : s < 2147483647
set_option maxRecDepth 20000 in
set_option maxHeartbeats 3200000 in
theorem tree_s_bad (p l s : Int) (h : ¬ Tgood p l s) (w : World) : FX 28 #[.int .i64 p, .int .i64 l, .int .i64 s] w 1 0 (fun _ => 0) 0 := by
  have HG : Hid (¬ Tgood p l s) := h
  clear h
  unfold FX
  cases hp : photB p
  · go_enter Try.func28, Try.ntmps28
    go_wp2_with fail
    refine (phot_s p _).mono ?_
    rintro e w1 ⟨rfl, rfl⟩
    rw [hp]
    go_wp2
    refine bodyPost_ret (v := Fx 1 (.slice none 0 0) 0) (by simp [results, Try.results28, go_sem]) rfl ⟨_, rfl, Or.inl ⟨rfl, rfl⟩, by go_grown⟩
  have hp1 := photB_t hp
  by_cases l0 : l < 0
  · go_enter Try.func28, Try.ntmps28
    go_wp2_with fail
    refine (phot_s p _).mono ?_
    rintro e w1 ⟨rfl, rfl⟩
    rw [hp]
    go_wp2
    refine bodyPost_ret (v := Fx 1 (.slice none 0 0) 0) (by simp [results, Try.results28, go_sem]) rfl ⟨_, rfl, Or.inl ⟨rfl, rfl⟩, by go_grown⟩
  by_cases l1 : 6 < l
  · go_enter Try.func28, Try.ntmps28
    go_wp2_with fail
    refine (phot_s p _).mono ?_
    rintro e w1 ⟨rfl, rfl⟩
    rw [hp]
    go_wp2
    refine bodyPost_ret (v := Fx 1 (.slice none 0 0) 0) (by simp [results, Try.results28, go_sem]) rfl ⟨_, rfl, Or.inl ⟨rfl, rfl⟩, by go_grown⟩
  by_cases s0 : s < 0
  · go_enter Try.func28, Try.ntmps28
    go_wp2_with fail
    refine (phot_s p _).mono ?_
    rintro e w1 ⟨rfl, rfl⟩
    rw [hp]
    go_wp2
    refine bodyPost_ret (v := Fx 1 (.slice none 0 0) 0) (by simp [results, Try.results28, go_sem]) rfl ⟨_, rfl, Or.inl ⟨rfl, rfl⟩, by go_grown⟩
  by_cases s1 : 2147483647 ≤ s
  · go_enter Try.func28, Try.ntmps28
    go_wp2_with fail
    refine (phot_s p _).mono ?_
    rintro e w1 ⟨rfl, rfl⟩
    rw [hp]
    go_wp2
    refine bodyPost_ret (v := Fx 1 (.slice none 0 0) 0) (by simp [results, Try.results28, go_sem]) rfl ⟨_, rfl, Or.inl ⟨rfl, rfl⟩, by go_grown⟩
  exact absurd ⟨by omega, by omega, by omega, by omega, by omega, by omega⟩ HG.out
/-- What stands ahead of level k: the list, the result's block. -/
structure Tx (w : World) (L : Lvl) (n hi : Nat) (v : Value) (W : World) : Prop where
  own : OwS 2 (w.heap.size + 1) hi W v n (fun i => .int .i64 (L.f i))
  res : Blk W w.heap.size #[.int .i64 0, .slice none 0 0, .int .i64 0] 57
  below : Below w.heap.size w W
  lt : w.heap.size + 1 ≤ hi ∧ hi ≤ W.heap.size
theorem Tx.later {w W W' : World} {L : Lvl} {n hi : Nat} {v : Value} (h : Tx w L n hi v W) (b : Below hi W W') : Tx w L n hi v W' := by
  have := h.lt
  exact ⟨h.own.keep b (Nat.le_refl _), (b.block _ (by omega)).trans h.res, h.below.trans (b.mono (by omega)), by have := b.size; omega⟩
set_option maxRecDepth 20000 in
set_option maxHeartbeats 6400000 in
theorem tree_s_good {p s : Int} {l : Nat} (hg : Tgood p l s) (w : World) : FX 28 #[.int .i64 p, .int .i64 (l : Int), .int .i64 s] w 0 (2 ^ l) (tre p s l).f (tre p s l).s := by
  unfold FX
  have HT : Hid (∀ k, Lvk (tre p s k)) := tre_ok ⟨hg.p0, hg.p1⟩ ⟨hg.s0, hg.s1⟩
  obtain ⟨p0, p1, l0, l1, s0, s1⟩ := hg
  have hp : photB p = true := by simp [photB]; omega
  have hl : l ≤ 6 := by omega
  go_enter Try.func28, Try.ntmps28
  go_wp2_with fail
  refine (phot_s p _).mono ?_
  rintro e w1 ⟨rfl, rfl⟩
  rw [hp]
  go_upto_region 4 with fail
  obtain ⟨w0, hw0⟩ : ∃ W, W = (w.alloc (.cells #[.int .i64 0, .slice none 0 0, .int .i64 0] 57)).alloc (.cells #[.int .i64 p] 2) := ⟨_, rfl⟩
  have H0 : Hid (Tx w (tre p s 0) 1 w0.heap.size (.slice (some ⟨w.heap.size + 1, 0, none⟩) 1 1) w0) := by
    have hh : Tx w (tre p s 0) 1 w0.heap.size (.slice (some ⟨w.heap.size + 1, 0, none⟩) 1 1) w0 := by
      rw [hw0]
      refine ⟨Or.inr ⟨w.heap.size + 1, 1, rfl, by omega, by simp, ?_⟩, (Blk.new rfl).alloc _, ((Below.refl _ _).alloc (Nat.le_refl _) _).alloc (by simp) _, by simp, by simp⟩
      exact ⟨#[.int .i64 p], by have h1 := heap_alloc_new (w.alloc (.cells #[.int .i64 0, .slice none 0 0, .int .i64 0] 57)) (.cells #[.int .i64 p] 2); rwa [show (w.alloc (.cells #[.int .i64 0, .slice none 0 0, .int .i64 0] 57)).heap.size = w.heap.size + 1 by simp] at h1, fun i hi => by obtain rfl : i = 0 := (by omega); rfl⟩
    exact hh
  rw [← hw0]
  clear hw0 hp
  go_wp2_with fail
  go_loopw [2, 7, 8] (fun vs v i wr => ∃ (k : Nat) (ao : Option Addr) (cap : Nat), k ≤ l ∧ i = .int .i64 (k : Int) ∧ v = .slice ao (2 ^ k : Nat) cap ∧ vs = .int .i64 (tre p s k).s ∧ Hid (Tx w (tre p s k) (2 ^ k) wr.heap.size v wr)) (fun _ _ i _ => l - (intOf i).toNat)
  case atStart => exact ⟨0, _, _, Nat.zero_le _, rfl, rfl, rfl, H0⟩
  case round =>
    obtain ⟨k, ao, cap, hk, rfl, rfl, rfl, HK⟩ := hrel
    clear H0
    by_cases hkl : k < l
    · have hkI : (k : Int) < l := by omega
      have HL : Hid (Lvk (tre p s k)) := HT.out k
      have HN : Hid (tre p s (k + 1) = nxt (tre p s k) (2 ^ k)) := rfl
      have hn : 2 ^ k ≤ 64 := pow_le6 (by omega)
      have h2 : 2 ^ (k + 1) = 2 * 2 ^ k := by rw [Nat.pow_succ, Nat.mul_comm]
      have H2 : Hid (2 ^ (k + 1) = 2 * 2 ^ k) := h2
      clear h2
      obtain ⟨n, hnn⟩ : ∃ n, n = 2 ^ k := ⟨_, rfl⟩
      obtain ⟨L, hL⟩ : ∃ L, L = tre p s k := ⟨_, rfl⟩
      rw [← hnn] at HN H2 hn HK ⊢
      rw [← hL] at HL HN HK ⊢
      clear hnn hL
      go_upto_region 8 with fail
      obtain ⟨x1, hx1⟩ : ∃ W, W = wr.alloc (.cells #[] 2) := ⟨_, rfl⟩
      have O1 : Hid (x1.ownsRow wr.heap.size 2 1 (.slice (some ⟨wr.heap.size, 0, none⟩) 0 0) 0 []) := by show World.ownsRow _ _ _ _ _ _ _; rw [hx1]; exact owns_empty _ _ _
      have H1 : Hid (Tx w L n wr.heap.size (.slice ao n cap) x1) := HK.out.later (by rw [hx1]; exact (Below.refl _ _).alloc (Nat.le_refl _) _)
      rw [← hx1]
      clear hx1 HK
      obtain ⟨Bs, hBs⟩ : ∃ B, B = wr.heap.size := ⟨_, rfl⟩
      rw [← hBs] at O1 H1 ⊢
      clear hBs
      go_wp2_with fail
      go_loopw [2, 9, 10] (fun vs v i wx => ∃ (j : Nat) (a9 : Option Addr) (c9 : Nat), j ≤ n ∧ i = .int .i64 (j : Int) ∧ v = .slice a9 (2 * j) c9 ∧ vs = .int .i64 (ps L j) ∧ Hid (wx.ownsRow Bs 2 1 v (2 * j) (il (nxt L n).f (2 * j)) ∧ Tx w L n Bs (.slice ao n cap) wx)) (fun _ _ i _ => n - (intOf i).toNat)
      case atStart => exact ⟨0, _, _, Nat.zero_le _, rfl, rfl, rfl, O1.out, H1.out⟩
      case round =>
        obtain ⟨j, a9, c9, hj, rfl, rfl, rfl, HJ⟩ := hrel
        clear O1 H1
        by_cases hjn : j < n
        · have hb := HL.out.f0 j
          have hG := HL.out.good j
          obtain ⟨m, hm⟩ := Int.eq_ofNat_of_zero_le hb.1
          have e1 := nxt_even L n j
          have e2 := nxt_odd L n j
          have e3 : ps L (j + 1) = cx (ps L j) (L.f j).toNat := rfl
          rcases HJ.out.2.own with ⟨q0, q1⟩ | ⟨g, cp, q0, q1, q2, q3⟩
          · omega
          cases q0
          have k1 := q3.cell (i := j) hjn
          rw [Nat.zero_add] at k1
          rw [hm] at hG e1 e2 e3 k1 hb
          rw [Int.toNat_natCast] at hG e1 e2 e3
          have cab := ca_bd (ps L j) 2 1 m
          have SC : Hid (∀ W, Calls Try.prog 25 #[.int .i64 (m : Int), .int .i64 1, .int .i64 2, .int .i64 (ps L j)] W fun e w' => e = .returned (Kv 0 (ca (ps L j) 2 1 m) ((m : Int) - ca (ps L j) 2 1 m) (cx (ps L j) m)) ∧ Below W.heap.size W w') := fun W => split_s_good hG W
          rw [← e3] at SC
          obtain ⟨E, hE⟩ : ∃ E, E = ca (ps L j) 2 1 m := ⟨_, rfl⟩
          rw [← hE] at SC e1 e2 cab
          have HE : Hid ((nxt L n).f (2 * j) = E ∧ (nxt L n).f (2 * j + 1) = (m : Int) - E) := ⟨e1, e2⟩
          have hm4 : (m : Int) ≤ 4096 := by omega
          clear hE e1 e2 e3 hG hb hm q3
          go_wp2_with fail
          refine (SC.out _).mono ?_
          rintro e x2 ⟨rfl, b⟩
          have O2 : Hid (x2.ownsRow Bs 2 1 (.slice a9 (2 * j) c9) (2 * j) (il (nxt L n).f (2 * j)) ∧ Tx w L n Bs (.slice (some ⟨g, 0, none⟩) n cap) x2) := by
            have hl := HJ.out.2.lt
            exact ⟨owns_later HJ.out.1 b, HJ.out.2.later (b.mono (by omega))⟩
          clear b HJ SC k1
          go_upto_region 12 with fail
          obtain ⟨x3, hx3⟩ : ∃ W, W = x2.alloc (.cells #[.int .i64 0, .int .i64 E, .int .i64 ((m : Int) - E), .int .i64 (ps L (j + 1))] 52) := ⟨_, rfl⟩
          have b3 : Below x2.heap.size x2 x3 := by rw [hx3]; exact (Below.refl _ _).alloc (Nat.le_refl _) _
          have B3 : Hid (Blk x3 x2.heap.size #[.int .i64 0, .int .i64 E, .int .i64 ((m : Int) - E), .int .i64 (ps L (j + 1))] 52) := by show Blk _ _ _ _; rw [hx3]; exact Blk.new rfl
          have O3 : Hid (x3.ownsRow Bs 2 1 (.slice a9 (2 * j) c9) (2 * j) (il (nxt L n).f (2 * j))) := owns_later O2.out.1 b3
          have T3 : Hid (Tx w L n Bs (.slice (some ⟨g, 0, none⟩) n cap) x3) := O2.out.2.later (b3.mono O2.out.2.lt.2)
          have z3 : Bs ≤ x2.heap.size := O2.out.2.lt.2
          rw [← hx3]
          have zx : x3.heap.size = x2.heap.size + 1 := by rw [hx3]; simp
          have ZX : Hid (x3.heap.size = x2.heap.size + 1) := zx
          have z4 : Bs ≤ x3.heap.size := by omega
          clear hx3 b3 O2 zx
          have c1 := B3.out.cell (j := 1) (v := .int .i64 E) rfl
          have c2 := B3.out.cell (j := 2) (v := .int .i64 ((m : Int) - E)) rfl
          have c3 := B3.out.cell (j := 3) (v := .int .i64 (ps L (j + 1))) rfl
          go_wp2_with (first | (at_builtin; refine push2_law rfl (.tmp 52) (.tmp 57) 24 rfl 2 (.int .i64 0) 1 8 Try.underlying24 info2 rfl (by decide) (by decide) x3 [.int .i64 E, .int .i64 ((m : Int) - E)] rfl (by intro u hu; simp at hu; rcases hu with rfl | rfl <;> rfl) Bs _ (2 * j) _ (by simp [Act.eval]) O3.out 2 (by simp [Act.eval]) (by omega) z4 ?_; intro v1 x6 own6 grow6 nn6; obtain ⟨g', cp', rfl⟩ := owns_form2 own6; have b6 : Below Bs x3 x6 := push_below O3.out grow6 (Below.refl _ _) z4; have r3 := (own_keep O3.out grow6 B3.out (by decide)).cell (j := 3) (v := .int .i64 (ps L (j + 1))) rfl))
          have HQ : Hid (x6.ownsRow Bs 2 1 (.slice (some ⟨g', 0, none⟩) (2 * j + 2) cp') (2 * (j + 1)) (il (nxt L n).f (2 * (j + 1))) ∧ Tx w L n Bs (.slice (some ⟨g, 0, none⟩) n cap) x6) := by
            refine ⟨?_, T3.out.later b6⟩
            rw [show 2 * (j + 1) = 2 * j + 2 by omega, ← il_push2, HE.out.1, HE.out.2]
            exact own6
          clear own6 grow6 nn6 b6 T3 O3 B3 c1 c2 c3 HE
          go_wp2
          refine ⟨⟨j + 1, _, _, by omega, by simp, rfl, rfl, HQ⟩, by simp [intOf]; omega⟩
        · obtain rfl : j = n := by omega
          have HQ : Hid (Tx w (tre p s (k + 1)) (2 ^ (k + 1)) wr.heap.size (.slice a9 (2 * j) c9) wr) := by
            have hh : Tx w (tre p s (k + 1)) (2 ^ (k + 1)) wr.heap.size (.slice a9 (2 * j) c9) wr := by
              rw [HN.out, H2.out]
              have hl := HJ.out.2.lt
              exact ⟨(owned_il HJ.out.1).low (by omega) (Nat.le_refl _), HJ.out.2.res, HJ.out.2.below, by omega, Nat.le_refl _⟩
            exact hh
          have hps : ps L j = (tre p s (k + 1)).s := by rw [HN.out]; rfl
          have h2 : 2 * j = 2 ^ (k + 1) := H2.out.symm
          have HP : Hid (ps L j = (tre p s (k + 1)).s ∧ 2 * j = 2 ^ (k + 1)) := ⟨hps, h2⟩
          clear HJ HL HN H2 hps h2
          go_wp2
          exact ⟨⟨k + 1, a9, c9, by omega, by simp, by rw [HP.out.2], by rw [HP.out.1], HQ⟩, by simp [intOf]; omega⟩
    · obtain rfl : k = l := by omega
      have hkI : ¬ (k : Int) < k := by omega
      obtain ⟨n, hnn⟩ : ∃ n, n = 2 ^ k := ⟨_, rfl⟩
      obtain ⟨L, hL⟩ : ∃ L, L = tre p s k := ⟨_, rfl⟩
      rw [← hnn, ← hL] at HK ⊢
      have RW : Hid (n = 2 ^ k ∧ L = tre p s k) := ⟨hnn, hL⟩
      clear hnn hL HT
      have d0 := HK.out.res.cell (j := 0) (v := .int .i64 0) rfl
      have d1 := HK.out.res.cell (j := 1) (v := .slice none 0 0) rfl
      have d2 := HK.out.res.cell (j := 2) (v := .int .i64 0) rfl
      have f0 := HK.out.res.frozen 0
      have f1 := HK.out.res.frozen 1
      have f2 := HK.out.res.frozen 2
      go_wp2
      refine bodyPost_ret (v := Fx 0 (.slice ao n cap) L.s) (by simp [results, Try.results28, go_sem, d0, d1, d2]) rfl ⟨.slice ao n cap, by rw [RW.out.2], ?_, ((HK.out.below.setCell (by simp) _).setCell (by simp) _).setCell (by simp) _⟩
      rw [← RW.out.1, ← RW.out.2]
      rcases HK.out.own with ⟨e1, e2⟩ | ⟨g, cp, e1, h1, h2, h3⟩
      · exact Or.inl ⟨e1, e2⟩
      · exact Or.inr ⟨g, cp, e1, by omega, by simpa using h2, ((h3.setOther (by simp; omega) _).setOther (by simp; omega) _).setOther (by simp; omega) _⟩
end Go.Proofs.Ytkkajcdjkfbcgaa
