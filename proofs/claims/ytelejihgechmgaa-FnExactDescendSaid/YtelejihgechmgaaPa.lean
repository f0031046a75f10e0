/- A path that grows: points in blocks of their own, their list, their merits. -/
import Derived.Test.YtelejihgechmgaaLo
import Derived.Test.YtelejihgechmgaaPd
import Derived.Test.YtelejihgechmgaaBk
import Derived.Test.YtelejihgechmgaaVr
namespace Go.Proofs.Ytelejihgechmgaa
open Go.RowKit
set_option linter.unusedVariables false
set_option linter.unusedSimpArgs false
def rv (bs cs : Nat → Nat) (d i : Nat) : Value := .slice (some ⟨bs i, 0, none⟩) d (cs i)
def rvs (bs cs : Nat → Nat) (d N : Nat) : List Value := (List.range N).map (rv bs cs d)
def upd (f : Nat → Nat) (n x : Nat) : Nat → Nat := fun i => if i = n then x else f i
theorem upd_at (f : Nat → Nat) (n x : Nat) : upd f n x n = x := by simp [upd]
theorem upd_lt (f : Nat → Nat) {n i : Nat} (x : Nat) (h : i < n) : upd f n x i = f i := by
  have : i ≠ n := by omega
  simp [upd, this]
theorem rvs_len (bs cs : Nat → Nat) (d N : Nat) : (rvs bs cs d N).length = N := by simp [rvs]
theorem rvs_at (bs cs : Nat → Nat) (d : Nat) {N i : Nat} (h : i < N) : (rvs bs cs d N)[i]? = some (rv bs cs d i) := by simp [rvs, h]
theorem rvs_snoc (bs cs : Nat → Nat) (d N g c : Nat) : rvs bs cs d N ++ [.slice (some ⟨g, 0, none⟩) d c] = rvs (upd bs N g) (upd cs N c) d (N + 1) := by
  unfold rvs
  rw [List.range_succ, List.map_append]
  congr 1
  · apply List.map_congr_left
    intro i hi
    have hi' : i < N := by simpa using hi
    simp only [rv, upd_lt _ _ hi']
  · simp [rv, upd_at]
theorem owns_keep {w w' : World} {lo m n : Nat} {t : TypeId} {v : Value} {xs : List Value} (h : w.ownsRow lo t m v n xs) (hk : ∀ k, v.ownBlock = some k → w'.heap[k]? = w.heap[k]?) : w'.ownsRow lo t m v n xs := by
  obtain ⟨h0, h1 | ⟨g, cap, cur, hv, hg, hh, r⟩⟩ := h
  · exact ⟨h0, Or.inl h1⟩
  · exact ⟨h0, Or.inr ⟨g, cap, cur, hv, hg, (hk g (by rw [hv]; rfl)).trans hh, r⟩⟩
theorem owns_blk {w : World} {lo m n k : Nat} {t : TypeId} {v : Value} {xs : List Value} (h : w.ownsRow lo t m v n xs) (hk : v.ownBlock = some k) : ∃ cur, w.heap[k]? = some (.cells cur t (0, 0)) := by
  obtain ⟨h0, h1 | ⟨g, cap, cur, hv, hg, hh, r⟩⟩ := h
  · rw [h1.1] at hk; simp [Value.ownBlock] at hk
  · rw [hv] at hk
    simp [Value.ownBlock] at hk
    subst hk
    exact ⟨cur, hh⟩
theorem seg_blk {w : World} {b off n : Nat} {t : TypeId} {f : Nat → Value} (h : Seg w b t off n f) : ∃ cur, w.heap[b]? = some (.cells cur t (0, 0)) := by
  obtain ⟨cs, h1, _⟩ := h
  exact ⟨cs, h1⟩
structure Pth (w : World) (lo : Nat) (vp vm : Value) (bs cs : Nat → Nat) (d : Nat) (ps : List Mt.Pnt) (ms : List Int) : Prop where
  top : w.ownsRow lo 24 1 vp ps.length (rvs bs cs d ps.length)
  row : ∀ i, i < ps.length → Seg w (bs i) 2 0 d (fun j => .int .i64 ((ps.getD i (fun _ => 0)) j))
  rlo : ∀ i, i < ps.length → lo ≤ bs i
  inj : ∀ i j, i < ps.length → j < ps.length → bs i = bs j → i = j
  mer : Ol w lo vm ms
  mne : ∀ i, i < ps.length → vm.ownBlock ≠ some (bs i)
theorem Pth.keep {w w' : World} {lo d : Nat} {vp vm : Value} {bs cs : Nat → Nat} {ps : List Mt.Pnt} {ms : List Int} (h : Pth w lo vp vm bs cs d ps ms)
    (hk : ∀ (k : Nat) (cur : Array Value) (t : TypeId), w.heap[k]? = some (Obj.cells cur t (0, 0)) → (t = 2 ∨ t = 24) → w'.heap[k]? = w.heap[k]?) : Pth w' lo vp vm bs cs d ps ms := by
  refine ⟨owns_keep h.top fun k e => ?_, fun i hi => (h.row i hi).of_block ?_, h.rlo, h.inj, h.mer.keepOn fun k e => ?_, h.mne⟩
  · obtain ⟨cur, e2⟩ := owns_blk h.top e
    exact hk k cur 24 e2 (Or.inr rfl)
  · obtain ⟨cur, e2⟩ := seg_blk (h.row i hi)
    exact hk _ cur 2 e2 (Or.inl rfl)
  · obtain ⟨cur, e2⟩ := owns_blk h.mer e
    exact hk k cur 2 e2 (Or.inl rfl)
theorem Pth.later {w w' : World} {lo d : Nat} {vp vm : Value} {bs cs : Nat → Nat} {ps : List Mt.Pnt} {ms : List Int} (h : Pth w lo vp vm bs cs d ps ms) (hb : Below w.heap.size w w') : Pth w' lo vp vm bs cs d ps ms :=
  h.keep fun k cur t e _ => hb.block k (Array.getElem?_eq_some_iff.1 e).1
/-- A store into a box of another type. -/
theorem Pth.box {w : World} {lo d b j : Nat} {vp vm u : Value} {bs cs : Nat → Nat} {ps : List Mt.Pnt} {ms : List Int} {c : Array Value} {t : TypeId} (h : Pth w lo vp vm bs cs d ps ms) (hb : Blk w b c t) (ht : t ≠ 2 ∧ t ≠ 24) : Pth (w.setCell ⟨b, j, none⟩ u) lo vp vm bs cs d ps ms :=
  h.keep fun k cur t' e ht' => Below.heap_setCell _ _ _ _ fun q => by
    have q' : k = b := q
    subst q'
    have hb' : w.heap[k]? = some (.cells c t (0, 0)) := hb
    rw [hb'] at e
    simp at e
    rcases ht' with z | z
    · exact ht.1 (e.2.trans z)
    · exact ht.2 (e.2.trans z)
theorem Pth.pushP {w w4 : World} {lo d g c : Nat} {vp vm v' : Value} {bs cs : Nat → Nat} {ps : List Mt.Pnt} {ms : List Int} {y : Mt.Pnt} (h : Pth w lo vp vm bs cs d ps ms) (hs : Seg w g 2 0 d (fun j => .int .i64 (y j))) (hlo : lo ≤ g) (hn : ∀ i, i < ps.length → bs i ≠ g) (hm : vm.ownBlock ≠ some g)
    (ho : w4.ownsRow lo 24 1 v' (ps.length + 1) (rvs bs cs d ps.length ++ [.slice (some ⟨g, 0, none⟩) d c])) (hg : (w.alloc (.cells #[.slice (some ⟨g, 0, none⟩) d c] 24)).grownBy w4 vp.ownBlock) :
    Pth w4 lo v' vm (upd bs ps.length g) (upd cs ps.length c) d (ps ++ [y]) ms := by
  have hkp : ∀ (k : Nat) (cur : Array Value), w.heap[k]? = some (Obj.cells cur 2 (0, 0)) → w4.heap[k]? = w.heap[k]? := fun k cur e => by
    have hlt : k < w.heap.size := (Array.getElem?_eq_some_iff.1 e).1
    refine (hg.block k (by simp; omega) fun q => ?_).trans (Below.heap_alloc _ _ _ hlt)
    obtain ⟨cur', e2⟩ := owns_blk h.top q.symm
    rw [e] at e2
    simp at e2
  have hl : (ps ++ [y]).length = ps.length + 1 := by simp
  have hrow : ∀ i, i < ps.length → Seg w4 (bs i) 2 0 d (fun j => .int .i64 ((ps.getD i (fun _ => 0)) j)) := fun i hi => by
    obtain ⟨cur, e2⟩ := seg_blk (h.row i hi)
    exact (h.row i hi).of_block (hkp _ cur e2)
  have hnew : Seg w4 g 2 0 d (fun j => .int .i64 (y j)) := by
    obtain ⟨cur, e2⟩ := seg_blk hs
    exact hs.of_block (hkp _ cur e2)
  refine ⟨?_, fun i hi => ?_, fun i hi => ?_, fun i j hi hj e => ?_, h.mer.keepOn fun k e => ?_, fun i hi => ?_⟩
  · rw [hl, ← rvs_snoc]; exact ho
  · rw [hl] at hi
    by_cases q : i < ps.length
    · rw [upd_lt _ _ q]
      have : (ps ++ [y]).getD i (fun _ => 0) = ps.getD i (fun _ => 0) := by simp [List.getD, List.getElem?_append_left q]
      rw [this]
      exact hrow i q
    · obtain rfl : i = ps.length := by omega
      rw [upd_at]
      have : (ps ++ [y]).getD ps.length (fun _ => 0) = y := by simp [List.getD]
      rw [this]
      exact hnew
  · rw [hl] at hi
    by_cases q : i < ps.length
    · rw [upd_lt _ _ q]; exact h.rlo i q
    · obtain rfl : i = ps.length := by omega
      rw [upd_at]; exact hlo
  · rw [hl] at hi hj
    by_cases q : i < ps.length
    · by_cases q2 : j < ps.length
      · rw [upd_lt _ _ q, upd_lt _ _ q2] at e; exact h.inj i j q q2 e
      · obtain rfl : j = ps.length := by omega
        rw [upd_lt _ _ q, upd_at] at e; exact absurd e (hn i q)
    · obtain rfl : i = ps.length := by omega
      by_cases q2 : j < ps.length
      · rw [upd_lt _ _ q2, upd_at] at e; exact absurd e.symm (hn j q2)
      · omega
  · obtain ⟨cur, e2⟩ := owns_blk h.mer e
    exact hkp k cur e2
  · rw [hl] at hi
    by_cases q : i < ps.length
    · rw [upd_lt _ _ q]; exact h.mne i q
    · obtain rfl : i = ps.length := by omega
      rw [upd_at]; exact hm
theorem Pth.pushM {w w4 : World} {lo d c4 : Nat} {a4 : Option Addr} {vp vm : Value} {bs cs : Nat → Nat} {ps : List Mt.Pnt} {ms : List Int} {x : Int} (h : Pth w lo vp vm bs cs d ps ms) (ho : Ol w4 lo (.slice a4 (ms.length + 1) c4) (ms ++ [x])) (hg : (w.alloc (.cells #[.int .i64 x] 2)).grownBy w4 vm.ownBlock) (hp : (Value.slice a4 (ms.length + 1) c4).ownBlock = vm.ownBlock ∨ (Value.slice a4 (ms.length + 1) c4).ownBlock = some (w.heap.size + 1)) :
    Pth w4 lo vp (.slice a4 (ms.length + 1) c4) bs cs d ps (ms ++ [x]) := by
  have hkp : ∀ k, k < w.heap.size → vm.ownBlock ≠ some k → w4.heap[k]? = w.heap[k]? := fun k hlt hne => (hg.block k (by simp; omega) fun q => hne q.symm).trans (Below.heap_alloc _ _ _ hlt)
  refine ⟨owns_keep h.top fun k e => hkp k (h.top.lt k e).2 fun q => ?_, fun i hi => (h.row i hi).of_block (hkp _ (h.row i hi).lt (h.mne i hi)), h.rlo, h.inj, ho, fun i hi e => ?_⟩
  · obtain ⟨cur, e2⟩ := owns_blk h.top e
    obtain ⟨cur', e3⟩ := owns_blk h.mer q
    rw [e2] at e3
    simp at e3
  · rcases hp with q | q
    · exact h.mne i hi (q.symm.trans e)
    · have := (h.row i hi).lt
      rw [e] at q
      simp at q
      omega
theorem Pth.one {w : World} {lo d g c : Nat} {vp vm : Value} {y : Mt.Pnt} {m : Int} (ht : w.ownsRow lo 24 1 vp 1 [.slice (some ⟨g, 0, none⟩) d c]) (hm : Ol w lo vm [m]) (hs : Seg w g 2 0 d (fun j => .int .i64 (y j))) (hlo : lo ≤ g) (hne : vm.ownBlock ≠ some g) :
    Pth w lo vp vm (fun _ => g) (fun _ => c) d [y] [m] := by
  refine ⟨ht, fun i hi => ?_, fun i hi => hlo, fun i j hi hj _ => ?_, hm, fun i hi => hne⟩
  · have : i = 0 := by simp at hi; omega
    subst this
    exact hs
  · simp at hi hj; omega
/-- As a matrix. -/
theorem Pth.mat {w : World} {lo d : Nat} {vp vm : Value} {bs cs : Nat → Nat} {ps : List Mt.Pnt} {ms : List Int} (h : Pth w lo vp vm bs cs d ps ms) (hn : 0 < ps.length) :
    ∃ g cap, vp = .slice (some ⟨g, 0, none⟩) ps.length cap ∧ Mat lo w.heap.size w ⟨g, cap, bs, fun _ => 0, cs⟩ ps.length (fun _ => d) (fun i => ps.getD i (fun _ => 0)) := by
  obtain ⟨h0, h1 | ⟨g, cap, cur, hv, hg, hh, q1, q2, q3, q4⟩⟩ := h.top
  · omega
  · refine ⟨g, cap, hv, ⟨⟨cur, hh, fun i hi => ?_⟩, fun i hi => h.row i hi, hg, (Array.getElem?_eq_some_iff.1 hh).1, h.rlo, fun i hi => (h.row i hi).lt, h.inj⟩⟩
    have e := rvs_at bs cs d hi
    rw [← q4, List.getElem?_take] at e
    have : i < ps.length * 1 := by omega
    rw [if_pos this] at e
    simpa [Lie.row, rv] using e
end Go.Proofs.Ytelejihgechmgaa
