/- The drawing of a list of parts out of bytes: a contract. -/
import Derived.Test.YtdmjfphmgpkfcaaDs
import Derived.Test.YtdmjfphmgpkfcaaPq
import Derived.Test.YtdmjfphmgpkfcaaVr
import Derived.Test.YtdmjfphmgpkfcaaTs
namespace Go.Proofs.Ytdmjfphmgpkfcaa
open Go.RowKit
set_option linter.unusedVariables false
set_option linter.unusedSimpArgs false
theorem Src.low {w0 w w' : World} {v : Value} {a : Int} {p B : Nat} (h : Src w0 w v a p) (k : Below B w w') (hp : p < B) (hB : w0.heap.size ≤ B) : Src w0 w' v a p :=
  ⟨h.below.trans (k.mono hB), h.new, (k.cell (p := ⟨p, 0, none⟩) hp).trans h.code, (k.cell (p := ⟨p, 1, none⟩) hp).trans h.here, (k.frozen (p := ⟨p, 1, none⟩) hp).trans h.free⟩
theorem Bu.low {p : Nat} {w w' w'' : World} (h : Bu p w w') (k : Below w.heap.size w' w'') : Bu p w w'' :=
  ⟨Nat.le_trans h.size k.size, fun b hb hp => (k.block b hb).trans (h.blk b hb hp)⟩
def prow (g : Pt) : List Value := [.int .i64 g.k, .int .i64 g.x.n, .int .i64 g.x.d]
def OwPt (w : World) (base : Nat) (v : Value) (n : Nat) (G : Nat → Pt) : Prop := w.ownsRow base 34 3 v n (flat (fun i => prow (G i)) n) ∧ v ≠ .slice none 0 0
theorem OwPt.bu {w w' : World} {base p n : Nat} {v : Value} {G : Nat → Pt} (h : OwPt w base v n G) (u : Bu p w w') (hp : p < base) : OwPt w' base v n G := by
  obtain ⟨⟨l, h | ⟨g, cap, cur, hv, hg, hh, rest⟩⟩, hn⟩ := h
  · exact absurd h.1 hn
  · exact ⟨⟨l, Or.inr ⟨g, cap, cur, hv, hg, (u.blk g (Array.getElem?_eq_some_iff.1 hh).1 (by omega)).trans hh, rest⟩⟩, hn⟩
theorem flat_congr {F F' : Nat → List Value} : ∀ n, (∀ i, i < n → F i = F' i) → flat F n = flat F' n
  | 0, _ => rfl
  | n + 1, h => by rw [flat_succ, flat_succ, flat_congr n (fun i hi => h i (by omega)), h n (by omega)]
theorem pt_snoc (G : Nat → Pt) (n : Nat) (x : Pt) : flat (fun i => prow (G i)) n ++ prow x = flat (fun i => prow (if i = n then x else G i)) (n + 1) := by
  rw [flat_succ, if_pos rfl]
  congr 1
  exact flat_congr n fun i hi => by rw [if_neg (by omega)]
theorem pt_seg {w : World} {base n : Nat} {v : Value} {G : Nat → Pt} (h : OwPt w base v n G) : ∃ g cap, v = .slice (some ⟨g, 0, none⟩) n cap ∧ SegV w g 34 n 3 (fun i j => ptc (G i) j) := by
  obtain ⟨g, cap, h1, _, h3⟩ := owned_segV (m := 3) (F := fun i => prow (G i)) (f := fun i j => ptc (G i) j) (fun i => rfl) (fun i hi j hj => by
    have : j = 0 ∨ j = 1 ∨ j = 2 := by omega
    rcases this with rfl | rfl | rfl <;> rfl) h.1 h.2
  exact ⟨g, cap, h1, h3⟩
set_option maxRecDepth 20000 in
set_option maxHeartbeats 6400000 in
theorem list_any {w0 w : World} {v : Value} {a : Int} {p : Nat} (hS : Src w0 w v a p) (NX : Nexts w0 v p) (h0 : 0 ≤ a) (hK : a + 30 ≤ 900) :
    Calls Try.prog 53 #[.pointer (some ⟨p, 0, none⟩), .int .i64 4] w fun e w' => ∃ (n : Nat) (G : Nat → Pt) (g cap : Nat) (a' : Int), e = .returned (.slice (some ⟨g, 0, none⟩) n cap) ∧ n ≤ 4 ∧ SegV w' g 34 n 3 (fun i j => ptc (G i) j) ∧ (a ≤ a' ∧ a' ≤ a + 30) ∧ Src w0 w' v a' p ∧ Bu p w w' := by
  have N : Hid (Nexts w0 v p) := NX
  have hp := hS.lt
  have hw := hS.below.size
  obtain ⟨w1, hw1⟩ : ∃ W, W = w.alloc (.cells #[] 34) := ⟨_, rfl⟩
  have S1 : Hid (Src w0 w1 v a p) := by show Src _ _ _ _ _; rw [hw1]; exact hS.alloc _
  have U1 : Hid (Bu p w w1) := by show Bu _ _ _; rw [hw1]; exact (Bu.refl _ _).alloc _
  have O1 : Hid (OwPt w1 w.heap.size (.slice (some ⟨w.heap.size, 0, none⟩) 0 0) 0 (fun _ => zpt)) := by show OwPt _ _ _ _ _; rw [hw1]; exact ⟨owns_empty w 34 3, by simp⟩
  clear hS NX
  go_enter Try.func53, Try.ntmps53
  go_wp2_with fail
  rw [← hw1]
  clear hw1
  refine (N.out _ _ 5 S1.out (by omega) (by omega) (by omega) (by omega)).mono ?_
  rintro e w2 ⟨r, rfl, r0, r1, hs, hb⟩
  have u := bu_next hs hb
  have S2 : Hid (Src w0 w2 v (a + 1) p) := hs
  have U2 : Hid (Bu p w w2) := U1.out.trans u
  have O2 : Hid (OwPt w2 w.heap.size (.slice (some ⟨w.heap.size, 0, none⟩) 0 0) 0 (fun _ => zpt)) := O1.out.bu u hp
  clear hs hb u S1 U1 O1
  obtain ⟨j0, rfl⟩ := Int.eq_ofNat_of_zero_le r0
  go_wp2_with fail
  go_loopw [5, 6] (fun l k wr => ∃ (n j : Nat) (G : Nat → Pt) (a' : Int), k = .int .i64 j ∧ n + j ≤ 4 ∧ (a ≤ a' ∧ a' ≤ a + 1 + 6 * n) ∧ Hid (OwPt wr w.heap.size l n G) ∧ Hid (Src w0 wr v a' p) ∧ Hid (Bu p w wr)) (fun l k _ => (intOf k).toNat)
  case atStart => exact ⟨0, j0, fun _ => zpt, a + 1, rfl, by omega, ⟨by omega, by omega⟩, O2, S2, U2⟩
  case round =>
    obtain ⟨n, j, G, a', rfl, hnj, ⟨ha1, ha2⟩, HO, HS, HU⟩ := hrel
    obtain ⟨l, hl⟩ : ∃ l, l = u5 := ⟨_, rfl⟩
    rw [← hl] at HO ⊢
    clear hl
    have zr : w.heap.size ≤ wr.heap.size := HU.out.size
    by_cases hj : 0 < j
    · have hjI : (0 : Int) < (j : Int) := by omega
      go_wp2_with fail
      refine (N.out _ _ 2 HS.out (by omega) (by omega) (by omega) (by omega)).mono ?_
      rintro e x1 ⟨t, rfl, t0, t1, hs, hb⟩
      have u := bu_next hs hb
      have T1 : Hid (Src w0 x1 v (a' + 1) p) := hs
      have V1 : Hid (Bu p w x1) := HU.out.trans u
      have P1 : Hid (OwPt x1 w.heap.size l n G) := HO.out.bu u hp
      clear hs hb u HO HS HU
      go_wp2_with fail
      refine (plain_any _ _ _ _ _ T1.out N.out (by omega) (by omega)).mono ?_
      rintro e x2 ⟨q, a2, rfl, qB, ⟨q0, q1⟩, hs, u⟩
      have T2 : Hid (Src w0 x2 v a2 p) := hs
      have V2 : Hid (Bu p w x2) := V1.out.trans u
      have P2 : Hid (OwPt x2 w.heap.size l n G) := P1.out.bu u hp
      have M5 : Hid (w.heap.size ≤ x2.heap.size) := V2.out.size
      clear hs u T1 V1 P1 qB
      go_wp2_with (first | (at_builtin; refine push_law rfl (.tmp 16) (.tmp 23) 35 rfl 34 (.agg #[.int .i64 0, .int .i64 0, .int .i64 0]) 3 24 Try.underlying35 infoPt rfl (by decide) (by decide) x2 [.int .i64 (1 + t), .int .i64 q.n, .int .i64 q.d] rfl (by intro u hu; simp at hu; rcases hu with rfl | rfl | rfl <;> rfl) w.heap.size l n _ rfl P2.out.1 1 rfl (by omega) M5.out ?_; intro l1 x3 own3 grow3 ne3))
      have b3 : Below w.heap.size x2 x3 := push_below P2.out.1 grow3 (Below.refl _ _) M5.out
      have T3 : Hid (Src w0 x3 v a2 p) := T2.out.low b3 hp hw
      have V3 : Hid (Bu p w x3) := V2.out.low b3
      have P3 : Hid (OwPt x3 w.heap.size l1 (n + 1) (fun i => if i = n then ⟨1 + t, q⟩ else G i)) := ⟨by rw [← pt_snoc]; exact own3, ne3⟩
      clear own3 grow3 b3 T2 V2 P2 M5 ne3
      go_wp2
      first
      | (refine ⟨⟨n + 1, j - 1, _, a2, by congr 1; omega, by omega, ⟨by omega, by omega⟩, P3, T3, V3⟩, by simp [intOf]; omega⟩)
      | (go_roundw; case rel => exact ⟨n + 1, j - 1, _, a2, by congr 1; omega, by omega, ⟨by omega, by omega⟩, P3, T3, V3⟩; case measure => (simp [intOf]; omega))
    · have hjI : ¬ (0 : Int) < (j : Int) := by omega
      obtain ⟨g, cap, rfl, hseg⟩ := pt_seg HO.out
      have HG : Hid (SegV wr g 34 n 3 (fun i j => ptc (G i) j)) := hseg
      clear hseg
      go_wp2
      first
      | exact bodyPost_ret (v := .slice (some ⟨g, 0, none⟩) n cap) (by simp [results, Try.results53, go_sem]) rfl ⟨n, G, g, ⟨cap, rfl⟩, by omega, HG.out, a', ⟨by omega, by omega⟩, HS.out, HU.out⟩
      | (go_ret; exact ⟨n, G, g, ⟨cap, rfl⟩, by omega, HG.out, a', ⟨by omega, by omega⟩, HS.out, HU.out⟩)
      | (refine bodyPost_ret (v := .slice (some ⟨g, 0, none⟩) n cap) (by simp [results, Try.results53, go_sem]) rfl ?_; exact ⟨n, G, g, ⟨cap, rfl⟩, by omega, HG.out, a', ⟨by omega, by omega⟩, HS.out, HU.out⟩)
end Go.Proofs.Ytdmjfphmgpkfcaa
