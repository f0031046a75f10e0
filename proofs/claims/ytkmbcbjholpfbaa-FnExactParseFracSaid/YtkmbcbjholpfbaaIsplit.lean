/- The program's taking apart of a text, and what it makes of the parts. -/
import Derived.Test.YtkmbcbjholpfbaaIread
import Derived.Lib.IndexAny
import Derived.Lib.Repeat
namespace Go.Proofs.Ytkmbcbjholpfbaa
open Go.RowKit
set_option linter.unusedVariables false
theorem any_none : ∀ ds : List UInt8, Tx.AllD ds → Lib.indexAny ds [46, 47] = -1
  | [], _ => rfl
  | c :: ds, h => by
    unfold Lib.indexAny
    rw [Tx.not_mark (h c (by simp)), any_none ds (fun d hd => h d (by simp [hd]))]
    rfl
theorem any_at : ∀ (ds t : List UInt8) (c : UInt8), Tx.AllD ds → c = 46 ∨ c = 47 → Lib.indexAny (ds ++ c :: t) [46, 47] = ds.length
  | [], t, c, _, hc => by
    rcases hc with rfl | rfl <;> simp [Lib.indexAny]
  | d :: ds, t, c, h, hc => by
    rw [List.cons_append]
    unfold Lib.indexAny
    rw [Tx.not_mark (h d (by simp)), any_at ds t c (fun e he => h e (by simp [he])) hc]
    have : ((ds.length : Int) == -1) = false := by rw [beq_eq_false_iff_ne]; omega
    simp [this]
theorem trim45 (m : Bool) (ds t : List UInt8) (h : Tx.AllD ds) (hne : ds ≠ []) : Lib.trimPrefix (Tx.sgn m ++ (ds ++ t)) [45] = ds ++ t := by
  unfold Lib.trimPrefix Lib.hasPrefix
  rw [Tx.pre45 m ds t h hne]
  cases m <;> simp [Tx.sgn]
/-- CutPrefix of the minus. -/
theorem cut45 (m : Bool) (ds t : List UInt8) (h : Tx.AllD ds) (hne : ds ≠ []) (w : World) (s : ByteArray) (hs : s.data.toList = Tx.sgn m ++ (ds ++ t)) :
    Calls Try.prog 54 #[.string s, .string ⟨#[45]⟩] w fun e w' => e = .returned (.tuple #[.string ⟨(ds ++ t).toArray⟩, .bool m]) ∧ w' = w := by
  have := cutPrefix s ⟨#[45]⟩ w
  rw [hs, show (⟨#[45]⟩ : ByteArray).data.toList = [45] from rfl, trim45 m ds t h hne, show Lib.hasPrefix (Tx.sgn m ++ (ds ++ t)) [45] = m from Tx.pre45 m ds t h hne] at this
  exact this
theorem ascii_at {l : List UInt8} (h : ∀ c ∈ l, c.toNat < 128) : ∀ (j : Nat) b, (⟨l.toArray⟩ : ByteArray).data.toList[j]? = some b → b.toNat < 128 := fun j b hb => h b (List.mem_of_getElem? hb)
theorem idx_none (ds : List UInt8) (h : Tx.AllD ds) (hl : ds.length ≤ 4000) (w : World) :
    Calls Try.prog 55 #[.string ⟨ds.toArray⟩, .string ⟨#[46, 47]⟩] w fun e w' => e = .returned (.int .i64 (-1)) ∧ Below w.heap.size w w' := by
  have := idxAny ⟨ds.toArray⟩ ⟨#[46, 47]⟩ w (by show ds.length < _; omega) (by decide) (ascii_at (Tx.ascii_d h)) (ascii_at (l := [46, 47]) (by decide))
  rw [show (⟨ds.toArray⟩ : ByteArray).data.toList = ds from rfl, show (⟨#[46, 47]⟩ : ByteArray).data.toList = [46, 47] from rfl, any_none ds h] at this
  exact this
theorem idx_at (ds es : List UInt8) (c : UInt8) (h : Tx.AllD ds) (he : Tx.AllD es) (hc : c = 46 ∨ c = 47) (hl : ds.length + es.length ≤ 4000) (w : World) :
    Calls Try.prog 55 #[.string ⟨(ds ++ c :: es).toArray⟩, .string ⟨#[46, 47]⟩] w fun e w' => e = .returned (.int .i64 (ds.length : Int)) ∧ Below w.heap.size w w' := by
  have hasc : ∀ d ∈ ds ++ c :: es, d.toNat < 128 := by
    intro d hd
    rcases List.mem_append.1 hd with hd | hd
    · exact Tx.ascii_d h d hd
    · rcases List.mem_cons.1 hd with rfl | hd
      · rcases hc with rfl | rfl <;> decide
      · exact Tx.ascii_d he d hd
  have := idxAny ⟨(ds ++ c :: es).toArray⟩ ⟨#[46, 47]⟩ w (by show (ds ++ c :: es).length < _; simp; omega) (by decide) (ascii_at hasc) (ascii_at (l := [46, 47]) (by decide))
  rw [show (⟨(ds ++ c :: es).toArray⟩ : ByteArray).data.toList = ds ++ c :: es from rfl, show (⟨#[46, 47]⟩ : ByteArray).data.toList = [46, 47] from rfl, any_at ds es c h hc] at this
  exact this
set_option maxHeartbeats 1000000 in
theorem split_none (m : Bool) (ds : List UInt8) (h : Tx.AllD ds) (hne : ds ≠ []) (s : ByteArray) (hs : s.data.toList = Tx.sgn m ++ (ds ++ [])) (hl : ds.length ≤ 4000) (w : World) :
    Calls Try.prog 47 #[.string s] w fun e w' => e = .returned (.agg #[.bool m, .string ⟨ds.toArray⟩, .int .u8 0, .int .i64 0, .string ⟨#[]⟩]) ∧ Below w.heap.size w w' := by
  have HK : Hid (∀ W, Calls Try.prog 54 #[.string s, .string ⟨#[45]⟩] W fun e w' => e = .returned (.tuple #[.string ⟨ds.toArray⟩, .bool m]) ∧ w' = W) := fun W => by
    have := cut45 m ds [] h hne W s hs
    rwa [List.append_nil] at this
  have HI : Hid (∀ W, Calls Try.prog 55 #[.string ⟨ds.toArray⟩, .string ⟨#[46, 47]⟩] W fun e w' => e = .returned (.int .i64 (-1)) ∧ Below W.heap.size W w') := fun W => idx_none ds h hl W
  clear h hne hs
  go_enter Try.func47, Try.ntmps47
  go_wp2_with (go_at_call 54; refine (HK.out _).mono ?_; rintro e w' ⟨rfl, rfl⟩)
  refine (HI.out _).mono ?_
  rintro e w1 ⟨rfl, hb1⟩
  have H1 : Hid (Below w.heap.size w w1) := by refine box_step ?_ hb1 (Nat.le_refl _); go_grown
  obtain ⟨ho, hf, hz⟩ := olds hb1
  clear hb1
  go_wp2
  have c0 := ho w.heap.size 0 (by simp; omega)
  have c1 := ho w.heap.size 1 (by simp; omega)
  have c2 := ho w.heap.size 2 (by simp; omega)
  have c3 := ho w.heap.size 3 (by simp; omega)
  have c4 := ho w.heap.size 4 (by simp; omega)
  simp at c0 c1 c2 c3 c4
  refine bodyPost_ret (v := .agg #[.bool m, .string ⟨ds.toArray⟩, .int .u8 0, .int .i64 0, .string ⟨#[]⟩]) (by simp [results, Try.results47, go_sem, c0, c1, c2, c3, c4]) rfl ⟨rfl, ?_⟩
  have H2 := H1.out
  go_grown
theorem piece0 (ds es : List UInt8) (c : UInt8) : (⟨(ds ++ c :: es).toArray⟩ : ByteArray).extract 0 ds.length = ⟨ds.toArray⟩ := by
  rw [ext_of (l := ds ++ c :: es) rfl]; simp
theorem piece1 (ds es : List UInt8) (c : UInt8) : (⟨(ds ++ c :: es).toArray⟩ : ByteArray).extract (ds.length + 1) (ds.length + (es.length + 1)) = ⟨es.toArray⟩ := by
  rw [ext_of (l := ds ++ c :: es) rfl]
  rw [show ds.length + 1 = (ds ++ [c]).length by simp, show ds ++ c :: es = (ds ++ [c]) ++ es by simp, List.drop_left]
  congr 1
  rw [List.take_of_length_le (by simp; omega)]
theorem piece2 (ds es : List UInt8) (c : UInt8) (h : ds.length < (⟨(ds ++ c :: es).toArray⟩ : ByteArray).size) : (⟨(ds ++ c :: es).toArray⟩ : ByteArray)[ds.length] = c := by
  show (ds ++ c :: es)[ds.length]'_ = c
  simp
set_option maxHeartbeats 1000000 in
theorem split_mark (m : Bool) (ds es : List UInt8) (c : UInt8) (h : Tx.AllD ds) (he : Tx.AllD es) (hne : ds ≠ []) (hc : c = 46 ∨ c = 47) (s : ByteArray) (hs : s.data.toList = Tx.sgn m ++ (ds ++ c :: es)) (hl : ds.length + es.length ≤ 4000) (w : World) :
    Calls Try.prog 47 #[.string s] w fun e w' => e = .returned (.agg #[.bool m, .string ⟨ds.toArray⟩, .int .u8 (c.toNat : Int), .int .i64 (((Tx.sgn m).length : Int) + (ds.length : Int)), .string ⟨es.toArray⟩]) ∧ Below w.heap.size w w' := by
  have HK : Hid (∀ W, Calls Try.prog 54 #[.string s, .string ⟨#[45]⟩] W fun e w' => e = .returned (.tuple #[.string ⟨(ds ++ c :: es).toArray⟩, .bool m]) ∧ w' = W) := fun W => cut45 m ds (c :: es) h hne W s hs
  have HI : Hid (∀ W, Calls Try.prog 55 #[.string ⟨(ds ++ c :: es).toArray⟩, .string ⟨#[46, 47]⟩] W fun e w' => e = .returned (.int .i64 (ds.length : Int)) ∧ Below W.heap.size W w') := fun W => idx_at ds es c h he hc hl W
  have hsz := size_of hs
  have hsg := Tx.sgn_len m
  simp only [List.length_append, List.length_cons] at hsz
  have p0 := piece0 ds es c
  have p1 := piece1 ds es c
  have h3 : (⟨(ds ++ c :: es).toArray⟩ : ByteArray).size = ds.length + (es.length + 1) := by show (ds ++ c :: es).length = _; simp
  obtain ⟨dg, hdg⟩ : ∃ dg, dg = (⟨(ds ++ c :: es).toArray⟩ : ByteArray) := ⟨_, rfl⟩
  simp only [← hdg] at HK HI p0 p1 h3
  have h2 : ds.length < dg.size := by omega
  have p2 : (dg[ds.length]'h2) = c := by
    have : ∀ (d : ByteArray) (hd : d = ⟨(ds ++ c :: es).toArray⟩) (h2 : ds.length < d.size), (d[ds.length]'h2) = c := fun d hd h2 => by subst hd; exact piece2 ds es c h2
    exact this dg hdg h2
  clear h he hne hs hc hdg
  go_enter Try.func47, Try.ntmps47
  go_wp2_with (go_at_call 54; refine (HK.out _).mono ?_; rintro e w' ⟨rfl, rfl⟩)
  refine (HI.out _).mono ?_
  rintro e w1 ⟨rfl, hb1⟩
  have H1 : Hid (Below w.heap.size w w1) := by refine box_step ?_ hb1 (Nat.le_refl _); go_grown
  obtain ⟨ho, hf, hz⟩ := olds hb1
  clear hb1
  have hI2 : ((ds.length : Nat) : Int) < (dg.size : Int) := by omega
  have hI3 : ((ds.length : Nat) : Int) + 1 ≤ (dg.size : Int) := by omega
  go_wp2
  go_region
  go_wp2
  have c0 := ho w.heap.size 0 (by simp; omega)
  have c1 := ho w.heap.size 1 (by simp; omega)
  have c2 := ho w.heap.size 2 (by simp; omega)
  have c3 := ho w.heap.size 3 (by simp; omega)
  have c4 := ho w.heap.size 4 (by simp; omega)
  simp at c0 c1 c2 c3 c4
  refine bodyPost_ret (v := .agg #[.bool m, .string ⟨ds.toArray⟩, .int .u8 (c.toNat : Int), .int .i64 (((Tx.sgn m).length : Int) + (ds.length : Int)), .string ⟨es.toArray⟩]) (by simp [results, Try.results47, go_sem, c0, c1, c2, c3, c4]) rfl ⟨rfl, ?_⟩
  have H2 := H1.out
  go_grown
end Go.Proofs.Ytkmbcbjholpfbaa
