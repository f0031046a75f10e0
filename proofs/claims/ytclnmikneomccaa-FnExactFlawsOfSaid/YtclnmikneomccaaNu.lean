/- Things numbered as they come first: contracts. -/
import Derived.Test.YtclnmikneomccaaMb
import Derived.Test.YtclnmikneomccaaNg
import Derived.Test.YtclnmikneomccaaLo
import Derived.Test.YtclnmikneomccaaRp
namespace Go.Proofs.Ytclnmikneomccaa
open Go.RowKit Go.Maps
set_option linter.unusedVariables false
set_option linter.unusedSimpArgs false
def fints (f : Nat → Int) (d : Nat) : List Int := (List.range d).map f
theorem fints_len (f : Nat → Int) (d : Nat) : (fints f d).length = d := by simp [fints]
theorem fints_at (f : Nat → Int) {d i : Nat} (h : i < d) : (fints f d).getD i 0 = f i := by simp [fints, List.getD, h]
theorem fints_zero (f : Nat → Int) : fints f 0 = [] := rfl
theorem fints_snoc (f : Nat → Int) (d : Nat) (x : Int) : fints (fun a => if a = d then x else f a) (d + 1) = fints f d ++ [x] := by
  unfold fints
  rw [List.range_succ, List.map_append]
  congr 1
  · apply List.map_congr_left
    intro a ha
    have := List.mem_range.1 ha
    have : a ≠ d := by omega
    simp [this]
  · simp
theorem Ol.nil (w : World) (lo : Nat) : Ol w lo (.slice none 0 0) [] := ownsV_nil w lo 2 1
/-- While things are numbered: the map, the list, the numbers. -/
def Nub {β : Type} (M : MpK β Int) (xs : Nat → β) (W : World) (lo bm : Nat) (v : Value) (k : Nat) : Prop :=
  ∃ (X : Nat → Int) (m : β → Option Int) (sz : Nat), Nw.Nu xs k X m sz ∧ HasM M W bm sz m ∧ Ol W lo v (fints X k)
theorem Nub.later {β : Type} {M : MpK β Int} {xs : Nat → β} {W W' : World} {lo bm k : Nat} {v : Value} (h : Nub M xs W lo bm v k) (hb : Below W.heap.size W W') : Nub M xs W' lo bm v k := by
  obtain ⟨X, m, sz, h1, h2, h3⟩ := h
  exact ⟨X, m, sz, h1, h2.later hb, h3.later hb⟩
theorem Ol.neMap {β α : Type} {M : MpK β α} {w : World} {lo b sz : Nat} {m : β → Option α} {v : Value} {xs : List Int} (h : Ol w lo v xs) (hm : HasM M w b sz m) : some b ≠ v.ownBlock := by
  obtain ⟨_, ⟨rfl, _⟩ | ⟨g, cap, cur, rfl, _, hh, _⟩⟩ := h
  · simp [Value.ownBlock]
  · simp only [Value.ownBlock]
    intro e
    simp only [Option.some.injEq] at e
    exact hm.ne hh e.symm
set_option maxRecDepth 20000 in
set_option maxHeartbeats 6400000 in
theorem numI_any {w : World} {ao : Option Addr} {n cap : Nat} {F : Nat → Int} (h : RdRow w (.slice ao n cap) n F) (hok : ∀ i, i < n → W64 (F i)) (hn : n ≤ 1048576) :
    Calls Try.prog 82 #[.slice ao n cap] w fun e w' => ∃ v X, e = .returned v ∧ Ol w' w.heap.size v (fints X n) ∧ Nw.RG n X ∧ (∀ a b, a < n → b < n → (X a = X b ↔ F a = F b)) ∧ Below w.heap.size w w' := by
  have H : ∀ W, Below w.heap.size w W → Hid (RdRow W (.slice ao n cap) n F) := fun W hb => h.later hb
  have HOK : Hid (∀ i, i < n → W64 (F i)) := hok
  clear h hok
  have hnI : (n : Int) ≤ 1048576 := by omega
  have hmm := @run_makeMap Try.prog
  go_enter Try.func82, Try.ntmps82
  go_wp2_with fail
  obtain ⟨w1, hw1⟩ : ∃ W, W = w.alloc (.map #[] 0) := ⟨_, rfl⟩
  obtain ⟨bm, hbm⟩ : ∃ b, b = w.heap.size := ⟨_, rfl⟩
  have HN : Hid (Nub (MII Try.prog) F w1 w.heap.size bm (.slice none 0 0) 0 ∧ Below w.heap.size w w1 ∧ bm < w1.heap.size) := by
    rw [hw1, hbm]
    exact ⟨⟨fun _ => 0, fun _ => none, 0, Nw.Nu.start _ _, HasM.made w, Ol.nil _ _⟩, (Below.refl _ _).alloc (Nat.le_refl _) _, by simp⟩
  have HBM : Hid (w.heap.size ≤ bm) := by rw [hbm]; exact Nat.le_refl _
  rw [← hw1, ← hbm]
  clear hw1 hbm hmm
  go_loopw [4, 12] (fun v i wr => ∃ k : Nat, k ≤ n ∧ i = .int .i64 k ∧ Hid (Nub (MII Try.prog) F wr w.heap.size bm v k ∧ Below w.heap.size w wr)) (fun _ i _ => n - (intOf i).toNat)
  case atStart => exact ⟨0, Nat.zero_le _, rfl, HN.out.1, HN.out.2.1⟩
  case round =>
    obtain ⟨k, hk, rfl, HH⟩ := hrel
    by_cases hkn : k < n
    · have hkI : (k : Int) < n := by omega
      obtain ⟨⟨X, m, sz, n1, n2, n3⟩, hb0⟩ := HH.out
      clear HH
      obtain ⟨x, hx⟩ : ∃ x, x = F k := ⟨_, rfl⟩
      have hxok : Hid (W64 x) := by rw [hx]; exact HOK.out k hkn
      obtain ⟨b, off, hao, hc⟩ : ∃ b off, ao = some ⟨b, off, none⟩ ∧ wr.cell? ⟨b, off + k, none⟩ = some (.int .i64 (F k)) := by
        rcases (H wr hb0).out with ⟨ao', cap', e, e2⟩ | ⟨b, off, cap', e, hc⟩
        · omega
        · simp only [Value.slice.injEq] at e
          exact ⟨b, off, e.1, hc k hkn⟩
      subst hao
      rw [← hx] at hc
      have HX : Hid (x = F k) := hx
      clear hx
      have hsz : sz ≤ 2000000 := by have := n1.nn; omega
      have hlen := fints_len X k
      have N1 : Hid (Nw.Nu F k X m sz) := n1
      have N2 : Hid (HasM (MII Try.prog) wr bm sz m) := n2
      have N3 : Hid (Ol wr w.heap.size u4 (fints X k)) := n3
      have N0 : Hid (Below w.heap.size w wr) := hb0
      clear n1 n2 n3 hb0
      cases hm : m x with
      | some q =>
        have HQ : Hid (m x = some q) := hm
        clear hm
        have HL : Hid ((fints X k).length = k) := hlen
        clear hlen
        go_wp2_with (first | (at_lookup; refine look_some okII N2.out rfl (.tmp 17) (.tmp 18) rfl x hxok.out (by simp [Act.eval]) (by simp [Act.eval]) q HQ.out ?_) | (at_builtin; refine pushL rfl (.tmp 29) (.tmp 31) rfl wr q w.heap.size u4 (fints X k) (by simp [Act.eval]) N3.out 1 (by simp [Act.eval]) (by rw [HL.out]; omega) N0.out.size ?_; intro ao4 c4 w4 ho4 hg4 hp4; rw [HL.out] at ho4 hp4 ⊢; have H4 : Hid (Nub (MII Try.prog) F w4 w.heap.size bm (.slice ao4 (k + 1) c4) (k + 1) ∧ Below w.heap.size w w4) := ⟨⟨_, m, sz, Nw.Nu.known N1.out (by rw [← HX.out]; exact HQ.out), (HasM.later N2.out ((Below.refl _ _).alloc (Nat.le_refl _) _)).grown hg4 (N3.out.neMap N2.out), by rw [fints_snoc]; exact ho4⟩, N0.out.trans (((Below.refl w.heap.size wr).alloc N0.out.size _).grown hg4 (by simp; have := N0.out.size; omega) fun g hg => (N3.out.lt g hg).1)⟩; clear ho4 hg4 hp4))
        go_roundw
        case rel => exact ⟨k + 1, by omega, by simp, H4⟩
        case measure => simp [intOf]; omega
      | none =>
        have HQ : Hid (m x = none) := hm
        clear hm
        have HL : Hid ((fints X k).length = k) := hlen
        clear hlen
        have hszI : (sz : Int) ≤ 2000000 := by omega
        have hlr : (Builtin.len_ #[116] 3 #[.map (some bm)]).run Try.prog wr = .ok (.int .i64 (sz : Int)) wr := HasM.len okII N2.out 3
        go_wp2_with (first | (at_lookup; refine look_none okII N2.out rfl (.tmp 17) (.tmp 18) rfl x hxok.out (by simp [Act.eval]) (by simp [Act.eval]) HQ.out ?_) | (at_mapUpdate; refine put_map okII N2.out rfl (.tmp 26) (.tmp 27) (.tmp 28) rfl x (sz : Int) hxok.out (show W64 (sz : Int) from ⟨by omega, by omega⟩) (by simp [Act.eval]) (by simp [Act.eval]) (by simp [Act.eval]) HQ.out hsz ?_; intro w3 hm3 hg3; have M3 : Hid (HasM (MII Try.prog) w3 bm (sz + 1) _ ∧ Ol w3 w.heap.size u4 (fints X k) ∧ Below w.heap.size w w3) := ⟨hm3, N3.out.keepOn fun g hg => hg3.block g (N3.out.lt g hg).2 (by intro e; exact N3.out.neMap N2.out (by rw [← e]; exact hg.symm)), N0.out.trans ((Below.refl w.heap.size wr).grown hg3 N0.out.size fun g hg => by simp only [Option.some.injEq] at hg; rw [← hg]; exact HBM.out)⟩; clear hm3 hg3) | (at_builtin; refine pushL rfl (.tmp 29) (.tmp 31) rfl w3 (sz : Int) w.heap.size u4 (fints X k) (by simp [Act.eval]) M3.out.2.1 1 (by simp [Act.eval]) (by rw [HL.out]; omega) M3.out.2.2.size ?_; intro ao4 c4 w4 ho4 hg4 hp4; rw [HL.out] at ho4 hp4 ⊢; have H4 : Hid (Nub (MII Try.prog) F w4 w.heap.size bm (.slice ao4 (k + 1) c4) (k + 1) ∧ Below w.heap.size w w4) := ⟨⟨_, _, sz + 1, Nw.Nu.fresh N1.out (by rw [← HX.out]; exact HQ.out), (HasM.later (by rw [← HX.out]; exact M3.out.1) ((Below.refl _ _).alloc (Nat.le_refl _) _)).grown hg4 (M3.out.2.1.neMap M3.out.1), by rw [fints_snoc]; exact ho4⟩, M3.out.2.2.trans (((Below.refl w.heap.size w3).alloc M3.out.2.2.size _).grown hg4 (by simp; have := M3.out.2.2.size; omega) fun g hg => (M3.out.2.1.lt g hg).1)⟩; clear ho4 hg4 hp4))
        go_roundw
        case rel => exact ⟨k + 1, by omega, by simp, H4⟩
        case measure => simp [intOf]; omega
    · obtain rfl : k = n := by omega
      obtain ⟨⟨X, m, sz, n1, n2, n3⟩, hb0⟩ := HH.out
      have HQ : Hid (Ol wr w.heap.size u4 (fints X k) ∧ Nw.RG k X ∧ (∀ a b, a < k → b < k → (X a = X b ↔ F a = F b)) ∧ Below w.heap.size w wr) := ⟨n3, n1.rg, n1.jo, hb0⟩
      clear HH n1 n2 n3 hb0 H HOK
      go_wp2
      go_ret
      exact ⟨_, X, rfl, HQ.out⟩
set_option maxRecDepth 20000 in
set_option maxHeartbeats 6400000 in
theorem numR_any {w : World} {ao : Option Addr} {n cap : Nat} {F : Nat → R.G} (h : R.Rsp w (.slice ao n cap) n F) (hok : ∀ i, i < n → (F i).b64) (hn : n ≤ 1048576) :
    Calls Try.prog 86 #[.slice ao n cap] w fun e w' => ∃ v X, e = .returned v ∧ Ol w' w.heap.size v (fints X n) ∧ Nw.RG n X ∧ (∀ a b, a < n → b < n → (X a = X b ↔ F a = F b)) ∧ Below w.heap.size w w' := by
  have H : ∀ W, Below w.heap.size w W → Hid (R.Rsp W (.slice ao n cap) n F) := fun W hb => h.later hb
  have HOK : Hid (∀ i, i < n → (F i).b64) := hok
  clear h hok
  have hnI : (n : Int) ≤ 1048576 := by omega
  have hmm := @run_makeMap Try.prog
  go_enter Try.func86, Try.ntmps86
  go_wp2_with fail
  obtain ⟨w1, hw1⟩ : ∃ W, W = w.alloc (.map #[] 0) := ⟨_, rfl⟩
  obtain ⟨bm, hbm⟩ : ∃ b, b = w.heap.size := ⟨_, rfl⟩
  have HN : Hid (Nub (MRI Try.prog) F w1 w.heap.size bm (.slice none 0 0) 0 ∧ Below w.heap.size w w1 ∧ bm < w1.heap.size) := by
    rw [hw1, hbm]
    exact ⟨⟨fun _ => 0, fun _ => none, 0, Nw.Nu.start _ _, HasM.made w, Ol.nil _ _⟩, (Below.refl _ _).alloc (Nat.le_refl _) _, by simp⟩
  have HBM : Hid (w.heap.size ≤ bm) := by rw [hbm]; exact Nat.le_refl _
  rw [← hw1, ← hbm]
  clear hw1 hbm hmm
  go_loopw [4, 12] (fun v i wr => ∃ k : Nat, k ≤ n ∧ i = .int .i64 k ∧ Hid (Nub (MRI Try.prog) F wr w.heap.size bm v k ∧ Below w.heap.size w wr)) (fun _ i _ => n - (intOf i).toNat)
  case atStart => exact ⟨0, Nat.zero_le _, rfl, HN.out.1, HN.out.2.1⟩
  case round =>
    obtain ⟨k, hk, rfl, HH⟩ := hrel
    by_cases hkn : k < n
    · have hkI : (k : Int) < n := by omega
      obtain ⟨⟨X, m, sz, n1, n2, n3⟩, hb0⟩ := HH.out
      clear HH
      obtain ⟨x, hx⟩ : ∃ x, x = F k := ⟨_, rfl⟩
      have hxok : Hid (x.b64) := by rw [hx]; exact HOK.out k hkn
      obtain ⟨b, off, hao, hc⟩ := (H wr hb0).out.at hkn
      subst hao
      rw [← hx] at hc
      have c0 : wr.cell? ⟨b, off + k * 5, none⟩ = some (.int .i64 x.ly) := hc 0 (by omega)
      have c1 : wr.cell? ⟨b, off + k * 5 + 1, none⟩ = some (.int .i64 x.xa) := hc 1 (by omega)
      have c2 : wr.cell? ⟨b, off + k * 5 + 2, none⟩ = some (.int .i64 x.ya) := hc 2 (by omega)
      have c3 : wr.cell? ⟨b, off + k * 5 + 3, none⟩ = some (.int .i64 x.xb) := hc 3 (by omega)
      have c4 : wr.cell? ⟨b, off + k * 5 + 4, none⟩ = some (.int .i64 x.yb) := hc 4 (by omega)
      have HX : Hid (x = F k) := hx
      clear hx hc
      go_upto_region 6 with fail
      obtain ⟨wb, hwb⟩ : ∃ W, W = wr.alloc (.cells #[.int .i64 x.ly, .int .i64 x.xa, .int .i64 x.ya, .int .i64 x.xb, .int .i64 x.yb] 68) := ⟨_, rfl⟩
      have B : Blk wb wr.heap.size #[.int .i64 x.ly, .int .i64 x.xa, .int .i64 x.ya, .int .i64 x.xb, .int .i64 x.yb] 68 := by rw [hwb]; exact Blk.new rfl
      have hbl : Below wr.heap.size wr wb := by rw [hwb]; exact (Below.refl _ _).alloc (Nat.le_refl _) _
      have n2b := n2.later hbl
      have n3b := n3.later hbl
      have hb0b := hb0.trans (hbl.mono hb0.size)
      rw [← hwb]
      clear hwb hbl n2 n3 hb0 c0 c1 c2 c3 c4
      obtain ⟨pb, hpb⟩ : ∃ p, p = wr.heap.size := ⟨_, rfl⟩
      rw [← hpb] at B
      simp only [← hpb]
      clear hpb
      have d0 := B.cell (j := 0) rfl
      have d1 := B.cell (j := 1) rfl
      have d2 := B.cell (j := 2) rfl
      have d3 := B.cell (j := 3) rfl
      have d4 := B.cell (j := 4) rfl
      have hsz : sz ≤ 2000000 := by have := n1.nn; omega
      have hlen := fints_len X k
      have N1 : Hid (Nw.Nu F k X m sz) := n1
      have N2 : Hid (HasM (MRI Try.prog) wb bm sz m) := n2b
      have N3 : Hid (Ol wb w.heap.size u4 (fints X k)) := n3b
      have N0 : Hid (Below w.heap.size w wb) := hb0b
      clear n1 n2b n3b hb0b
      cases hm : m x with
      | some q =>
        have HQ : Hid (m x = some q) := hm
        clear hm
        have HL : Hid ((fints X k).length = k) := hlen
        clear hlen
        go_wp2_with (first | (at_lookup; refine look_some okRI N2.out rfl (.tmp 17) (.tmp 18) rfl x hxok.out (by simp [Act.eval]) (by simp [Act.eval, rval]) q HQ.out ?_) | (at_builtin; refine pushL rfl (.tmp 29) (.tmp 31) rfl wb q w.heap.size u4 (fints X k) (by simp [Act.eval]) N3.out 1 (by simp [Act.eval]) (by rw [HL.out]; omega) N0.out.size ?_; intro ao4 c4 w4 ho4 hg4 hp4; rw [HL.out] at ho4 hp4 ⊢; have H4 : Hid (Nub (MRI Try.prog) F w4 w.heap.size bm (.slice ao4 (k + 1) c4) (k + 1) ∧ Below w.heap.size w w4) := ⟨⟨_, m, sz, Nw.Nu.known N1.out (by rw [← HX.out]; exact HQ.out), (HasM.later N2.out ((Below.refl _ _).alloc (Nat.le_refl _) _)).grown hg4 (N3.out.neMap N2.out), by rw [fints_snoc]; exact ho4⟩, N0.out.trans (((Below.refl w.heap.size wb).alloc N0.out.size _).grown hg4 (by simp; have := N0.out.size; omega) fun g hg => (N3.out.lt g hg).1)⟩; clear ho4 hg4 hp4))
        go_roundw
        case rel => exact ⟨k + 1, by omega, by simp, H4⟩
        case measure => simp [intOf]; omega
      | none =>
        have HQ : Hid (m x = none) := hm
        clear hm
        have HL : Hid ((fints X k).length = k) := hlen
        clear hlen
        have hszI : (sz : Int) ≤ 2000000 := by omega
        have hlr : (Builtin.len_ #[122] 3 #[.map (some bm)]).run Try.prog wb = .ok (.int .i64 (sz : Int)) wb := HasM.len okRI N2.out 3
        go_wp2_with (first | (at_lookup; refine look_none okRI N2.out rfl (.tmp 17) (.tmp 18) rfl x hxok.out (by simp [Act.eval]) (by simp [Act.eval, rval]) HQ.out ?_) | (at_mapUpdate; refine put_map okRI N2.out rfl (.tmp 26) (.tmp 27) (.tmp 28) rfl x (sz : Int) hxok.out (show W64 (sz : Int) from ⟨by omega, by omega⟩) (by simp [Act.eval]) (by simp [Act.eval, rval]) (by simp [Act.eval]) HQ.out hsz ?_; intro w3 hm3 hg3; have M3 : Hid (HasM (MRI Try.prog) w3 bm (sz + 1) _ ∧ Ol w3 w.heap.size u4 (fints X k) ∧ Below w.heap.size w w3) := ⟨hm3, N3.out.keepOn fun g hg => hg3.block g (N3.out.lt g hg).2 (by intro e; exact N3.out.neMap N2.out (by rw [← e]; exact hg.symm)), N0.out.trans ((Below.refl w.heap.size wb).grown hg3 N0.out.size fun g hg => by simp only [Option.some.injEq] at hg; rw [← hg]; exact HBM.out)⟩; clear hm3 hg3) | (at_builtin; refine pushL rfl (.tmp 29) (.tmp 31) rfl w3 (sz : Int) w.heap.size u4 (fints X k) (by simp [Act.eval]) M3.out.2.1 1 (by simp [Act.eval]) (by rw [HL.out]; omega) M3.out.2.2.size ?_; intro ao4 c4 w4 ho4 hg4 hp4; rw [HL.out] at ho4 hp4 ⊢; have H4 : Hid (Nub (MRI Try.prog) F w4 w.heap.size bm (.slice ao4 (k + 1) c4) (k + 1) ∧ Below w.heap.size w w4) := ⟨⟨_, _, sz + 1, Nw.Nu.fresh N1.out (by rw [← HX.out]; exact HQ.out), (HasM.later (by rw [← HX.out]; exact M3.out.1) ((Below.refl _ _).alloc (Nat.le_refl _) _)).grown hg4 (M3.out.2.1.neMap M3.out.1), by rw [fints_snoc]; exact ho4⟩, M3.out.2.2.trans (((Below.refl w.heap.size w3).alloc M3.out.2.2.size _).grown hg4 (by simp; have := M3.out.2.2.size; omega) fun g hg => (M3.out.2.1.lt g hg).1)⟩; clear ho4 hg4 hp4))
        go_roundw
        case rel => exact ⟨k + 1, by omega, by simp, H4⟩
        case measure => simp [intOf]; omega
    · obtain rfl : k = n := by omega
      obtain ⟨⟨X, m, sz, n1, n2, n3⟩, hb0⟩ := HH.out
      have HQ : Hid (Ol wr w.heap.size u4 (fints X k) ∧ Nw.RG k X ∧ (∀ a b, a < k → b < k → (X a = X b ↔ F a = F b)) ∧ Below w.heap.size w wr) := ⟨n3, n1.rg, n1.jo, hb0⟩
      clear HH n1 n2 n3 hb0 H HOK
      go_wp2
      go_ret
      exact ⟨_, X, rfl, HQ.out⟩
end Go.Proofs.Ytclnmikneomccaa
