/- A rectangle put into a row of its own at a place: contracts. -/
import Derived.Test.YtclnmikneomccaaIs
namespace Go.Proofs.Ytclnmikneomccaa
open Go.RowKit Go.Maps Go.Lib
set_option linter.unusedVariables false
set_option linter.unusedSimpArgs false
set_option maxRecDepth 100000 in
set_option maxHeartbeats 6400000 in
theorem iInsert_end {w : World} {lo g vb n cap : Nat} {S : Nat → R.G} {x : R.G} (hown : w.ownsRow lo 68 5 (.slice (some ⟨g, 0, none⟩) n cap) n (flat (fun j => R.spl (S j)) n)) (hc : n ≤ cap) (hlo : lo ≤ w.heap.size) (hb : Blk w vb #[.int .i64 x.ly, .int .i64 x.xa, .int .i64 x.ya, .int .i64 x.xb, .int .i64 x.yb] 68) (hn : n ≤ 1048576) (hmx : cap ≤ 9223372036854775807) :
    Calls Try.prog 76 #[.slice (some ⟨g, 0, none⟩) n cap, .int .i64 (n : Int), .slice (some ⟨vb, 0, none⟩) 1 1] w fun e w' => ∃ v, e = .returned v ∧ w'.ownsRow lo 68 5 v (n + 1) (flat (fun j => R.spl (ins S n x j)) (n + 1)) ∧ Below lo w w' := by
  have hsv : SegV w vb 68 1 5 (fun i j => R.scell x j) := by
    refine ⟨_, hb, fun i hi j hj => ?_⟩
    obtain rfl : i = 0 := by omega
    match j, hj with
    | 0, _ => rfl
    | 1, _ => rfl
    | 2, _ => rfl
    | 3, _ => rfl
    | 4, _ => rfl
  have hfl : flat (fun j => R.spl (S j)) n ++ flat (fun i => R.spl x) 1 = flat (fun j => R.spl (ins S n x j)) (n + 1) := by
    rw [flat_succ (fun j => R.spl (ins S n x j)) n]
    have e : flat (fun j => R.spl (ins S n x j)) n = flat (fun j => R.spl (S j)) n := flat_congr fun j hj => by simp [ins, hj]
    rw [e]
    simp [ins, flat, List.range_succ]
  have HO : Hid (w.ownsRow lo 68 5 (.slice (some ⟨g, 0, none⟩) n cap) n (flat (fun j => R.spl (S j)) n) ∧ lo ≤ w.heap.size ∧ SegV w vb 68 1 5 (fun i j => R.scell x j)) := ⟨hown, hlo, hsv⟩
  have HF : Hid (flat (fun j => R.spl (S j)) n ++ flat (fun i => R.spl x) 1 = flat (fun j => R.spl (ins S n x j)) (n + 1)) := hfl
  clear hown hlo hsv hfl hb
  by_cases hcap : cap = n
  · subst hcap
    go_enter Try.func76, Try.ntmps76
    go_wp2_with (first | (at_builtin; refine R.pushJ rfl (.tmp 23) (.tmp 24) rfl w lo _ cap _ (by simp [Act.eval]) HO.out.1 vb 1 1 (fun _ => x) (by simp [Act.eval]) HO.out.2.2 (by omega) (by omega) HO.out.2.1 ?_; intro v2 w2 ho2 hb2 hk2; have HR : Hid (w2.ownsRow lo 68 5 v2 (cap + 1) (flat (fun j => R.spl (ins S cap x j)) (cap + 1)) ∧ Below lo w w2) := ⟨by rw [← HF.out]; exact ho2, hb2⟩; clear ho2 hb2 hk2))
    go_wp2
    go_ret
    exact ⟨_, rfl, HR.out⟩
  · have hcap2 : ¬ (n = cap) := fun e => hcap e.symm
    go_enter Try.func76, Try.ntmps76
    go_wp2_with (first | (at_builtin; refine R.pushJ rfl (.tmp 23) (.tmp 24) rfl w lo _ n _ (by simp [Act.eval]) HO.out.1 vb 1 1 (fun _ => x) (by simp [Act.eval]) HO.out.2.2 (by omega) (by omega) HO.out.2.1 ?_; intro v2 w2 ho2 hb2 hk2; have HR : Hid (w2.ownsRow lo 68 5 v2 (n + 1) (flat (fun j => R.spl (ins S n x j)) (n + 1)) ∧ Below lo w w2) := ⟨by rw [← HF.out]; exact ho2, hb2⟩; clear ho2 hb2 hk2))
    go_wp2
    go_ret
    exact ⟨_, rfl, HR.out⟩
set_option maxRecDepth 100000 in
set_option maxHeartbeats 6400000 in
theorem iInsert_any {w : World} {lo vb n i : Nat} {v : Value} {S : Nat → R.G} {x : R.G} (hown : w.ownsRow lo 68 5 v n (flat (fun j => R.spl (S j)) n)) (hv : 0 < n) (hlo : lo ≤ w.heap.size) (hb : Blk w vb #[.int .i64 x.ly, .int .i64 x.xa, .int .i64 x.ya, .int .i64 x.xb, .int .i64 x.yb] 68) (hne : ∀ g, v.ownBlock = some g → vb ≠ g) (hi : i ≤ n) (hn : n ≤ 1048576) :
    Calls Try.prog 76 #[v, .int .i64 (i : Int), .slice (some ⟨vb, 0, none⟩) 1 1] w fun e w' => ∃ v, e = .returned v ∧ w'.ownsRow lo 68 5 v (n + 1) (flat (fun j => R.spl (ins S i x j)) (n + 1)) ∧ Below lo w w' := by
  have hown0 := hown
  have hFl : ∀ T : Nat → R.G, (flat (fun j => R.spl (T j)) (n + 1)).length = (n + 1) * 5 := fun T => flat_len (m := 5) (fun _ => rfl) _
  obtain ⟨h0, ⟨_, hz⟩ | ⟨g, cap, cur, rfl, hg, hh, h1, h2, h3, h4⟩⟩ := hown
  · omega
  have hvg : vb ≠ g := hne g rfl
  by_cases he : i = n
  · subst he
    exact iInsert_end hown0 h1 hlo hb hn (by unfold maxLen at h2; omega)
  have hLL : cur.toList.length = cap * 5 := by rw [Array.length_toList]; exact h3
  have hhL : w.heap[g]? = some (.cells cur.toList.toArray 68 (0, 0)) := by rw [Array.toArray_toList]; exact hh
  by_cases hr : n + 1 ≤ cap
  · refine (iInsert_in hhL hg hLL h4 hb hvg (by omega) hn hr h2).mono ?_
    rintro e w' ⟨rfl, ⟨L', q1, q2, q3⟩, q4⟩
    exact ⟨_, rfl, ⟨hFl _, Or.inr ⟨g, cap, _, rfl, hg, q1, hr, h2, by rw [List.size_toArray, q2]; exact hLL, q3⟩⟩, q4⟩
  · refine (iInsert_grow hhL hg hLL h4 hb (by omega) hn (by omega)).mono ?_
    rintro e w' ⟨q, G, rfl, p1, p2, p3, ⟨L', q1, q2, q3⟩, q4⟩
    exact ⟨_, rfl, ⟨hFl _, Or.inr ⟨q, G, _, rfl, p1, q1, p2, p3, by rw [List.size_toArray, q2], q3⟩⟩, q4⟩
end Go.Proofs.Ytclnmikneomccaa
