/-
  Package whole: Parse, Text.
  The reference's SameInt; the second law's same.
-/
import Derived.Test.YtodphjnhoinpeaaGreatDoorWholeA
import Derived.Test.YtodphjnhoinpeaaGreatDoorText2
import Derived.Test.YtodphjnhoinpeaaGreatDoorParse2
import Derived.Test.YtodphjnhoinpeaaGreatDoorRefText
namespace Go.Proofs.YtodphjnhoinpeaaGreatDoor
open Go.RowKit
namespace Nt

/-- Without the sign; is there one? -/
def cutD (l : List UInt8) : List UInt8 := Lib.trimPrefix l [45]
def hasD (l : List UInt8) : Bool := Lib.hasPrefix l [45]
theorem cutD_le (l : List UInt8) : (cutD l).length ≤ l.length := by
  unfold cutD Lib.trimPrefix
  split
  · rw [List.length_drop]; omega
  · exact Nat.le_refl _
def parseISp (l : List UInt8) : Bool × List Nat × Nat := (hasD l && decide (0 < (parseSp (cutD l)).1.length), (parseSp (cutD l)).1, (parseSp (cutD l)).2)
theorem parseSp_le (l : List UInt8) : (parseSp l).1.length ≤ 64 := by
  unfold parseSp
  split
  · split
    · rename_i h; exact digs_64 h
    · simp
  · simp

set_option maxRecDepth 100000 in
set_option maxHeartbeats 1000000 in
theorem parseI_any (s : ByteArray) (w : World) (hs : s.size ≤ 1000000) :
    Calls Tryz.prog 58 #[.string s] w (ITwo w (parseISp s.data.toList)) := by
  have C : Hid (∀ W, Calls Tryz.prog 91 #[.string s, .string { data := #[45] }] W fun e w' => e = .returned (.tuple #[.string ⟨(cutD s.data.toList).toArray⟩, .bool (hasD s.data.toList)]) ∧ w' = W) := fun W => Tryz.strings_CutPrefix s { data := #[45] } W
  have hz : (⟨(cutD s.data.toList).toArray⟩ : ByteArray).size ≤ 1000000 := by
    show (cutD s.data.toList).toArray.size ≤ 1000000
    rw [List.size_toArray]
    have := cutD_le s.data.toList
    have e : s.data.toList.length = s.data.size := Array.length_toList
    have e2 : s.data.size = s.size := rfl
    omega
  have P : Hid (∀ W, Calls Tryz.prog 41 #[.string ⟨(cutD s.data.toList).toArray⟩] W (Two W (parseSp (cutD s.data.toList)))) := fun W => parse_any ⟨(cutD s.data.toList).toArray⟩ W hz
  have L := hide (show (parseSp (cutD s.data.toList)).1.length ≤ 9223372036854775807 by have := parseSp_le (cutD s.data.toList); omega)
  have E : Hid (parseISp s.data.toList = (hasD s.data.toList && decide (0 < (parseSp (cutD s.data.toList)).1.length), (parseSp (cutD s.data.toList)).1, (parseSp (cutD s.data.toList)).2)) := rfl
  have X := hide (Rc.start w)
  generalize parseSp (cutD s.data.toList) = r at *
  generalize (⟨(cutD s.data.toList).toArray⟩ : ByteArray) = z at *
  generalize parseISp s.data.toList = pr at *
  generalize hasD s.data.toList = h at *
  clear hz
  go_enter Tryz.func58, Tryz.ntmps58
  go_wp2_with (first
    | (go_at_call 91; (with_reducible refine (C.out _).mono ?_); rintro e w' ⟨rfl, rfl⟩)
    | (go_at_call 41; (with_reducible refine (P.out _).mono ?_); rintro e w1 hh; obtain ⟨A3, c3, rfl, s3, hb⟩ := hh.get; have b1 := bl_one hb; have X := hide (X.out.next hb); obtain ⟨x1, x2, x3, x4⟩ := X.out; clear hh hb)
    | (go_at_call 61; (with_reducible refine (signed_any _ A3 _ c3 _ L.out).mono ?_); rintro e w2 ⟨rfl, hb⟩; have b2 := bl_trans b1 hb; have X := hide (X.out.next hb); obtain ⟨x1, x2, x3, x4⟩ := X.out; have s4 := bl_keeps hb _ _ s3; clear hb))
  exact bodyPost_ret (v := .tuple #[.agg #[.bool (h && decide (0 < r.1.length)), .slice A3 r.1.length c3], .int .i64 (r.2 : Int)]) (by simp [results, Tryz.results58, go_sem, x1, x2]) rfl (ITwo.mk E.out rfl (s4.store2 x1 x2 _ _) (Below.store2 b2 (Nat.le_refl _) _ _))

/-- Text, as the document says. -/
def textISp (s : Bool) (xs : List Nat) : List UInt8 := if validI s xs then (if s then 45 :: textSp xs else textSp xs) else []
theorem text_size {xs : List Nat} (l : Limbs xs) : (⟨(textSp xs).toArray⟩ : ByteArray).size ≤ 10000 := by
  show (textSp xs).toArray.size ≤ 10000
  rw [List.size_toArray]
  unfold textSp
  split
  · rename_i v
    exact dec_len (Nat.lt_of_lt_of_le (val_lt l) (Nat.pow_le_pow_right LB_pos (validB_iff.1 v).1))
  · simp
theorem minus_text (l : List UInt8) : ((⟨#[45]⟩ : ByteArray) ++ ⟨l.toArray⟩) = ⟨(45 :: l).toArray⟩ := by
  apply ByteArray.ext
  simp

set_option maxRecDepth 100000 in
set_option maxHeartbeats 1000000 in
theorem textI_any (s : Bool) (A : Option Addr) (c : Nat) (xs : List Nat) (w : World) (hx : Sl w A xs) (lx : Limbs xs) (hl : xs.length ≤ 1000000) (ht : Pow10 w) :
    Calls Tryz.prog 59 #[.agg #[.bool s, .slice A xs.length c]] w fun e w' => e = .returned (.string ⟨(textISp s xs).toArray⟩) ∧ Below w.heap.size w w' := by
  have V := hide (fun W (h : Below w.heap.size w W) => validI_any s A c xs W (bl_keeps h _ _ hx) (by omega))
  have T := hide (fun W (h : Below w.heap.size w W) => text_any A c xs W (bl_keeps h _ _ hx) lx hl (pow_below ht h))
  have X := hide (cells2 w (.bool s) (.slice A xs.length c) 41)
  cases hv : validI s xs with
  | false =>
    have E := hide (show textISp s xs = [] by unfold textISp; rw [hv]; rfl)
    rw [hv] at V
    clear hv hx lx T ht
    generalize xs.length = n at *
    go_enter Tryz.func59, Tryz.ntmps59
    go_wp2_with (go_at_call 36; (with_reducible refine (V.out _ (bl_al (.refl _ _) _)).mono ?_); rintro e w1 ⟨rfl, hb⟩; have x1 := cell_next hb X.out.1; have x2 := cell_next hb X.out.2.1; have b1 := bl_one hb)
    go_ret
    exact ⟨by rw [E.out]; rfl, b1⟩
  | true =>
    have hz := text_size lx
    rw [hv] at V
    cases s with
    | true =>
      have E := hide (show (⟨(textISp true xs).toArray⟩ : ByteArray) = ⟨#[45]⟩ ++ ⟨(textSp xs).toArray⟩ by unfold textISp; rw [hv, minus_text]; rfl)
      clear hv hx lx ht
      generalize xs.length = n at *
      generalize (⟨(textSp xs).toArray⟩ : ByteArray) = tx at *
      go_enter Tryz.func59, Tryz.ntmps59
      go_wp2_with (first | (go_at_call 36; (with_reducible refine (V.out _ (bl_al (.refl _ _) _)).mono ?_); rintro e w1 ⟨rfl, hb⟩; have x1 := cell_next hb X.out.1; have x2 := cell_next hb X.out.2.1; have b1 := bl_one hb) | (go_at_call 42; (with_reducible refine (T.out _ b1).mono ?_); rintro e w2 ⟨rfl, hb2⟩; have b2 := bl_trans b1 hb2))
      go_ret
      exact ⟨by rw [E.out]; rfl, b2⟩
    | false =>
      have E := hide (show (⟨(textISp false xs).toArray⟩ : ByteArray) = ⟨(textSp xs).toArray⟩ by unfold textISp; rw [hv]; rfl)
      clear hv hx lx ht
      generalize xs.length = n at *
      generalize (⟨(textSp xs).toArray⟩ : ByteArray) = tx at *
      go_enter Tryz.func59, Tryz.ntmps59
      go_wp2_with (first | (go_at_call 36; (with_reducible refine (V.out _ (bl_al (.refl _ _) _)).mono ?_); rintro e w1 ⟨rfl, hb⟩; have x1 := cell_next hb X.out.1; have x2 := cell_next hb X.out.2.1; have b1 := bl_one hb) | (go_at_call 42; (with_reducible refine (T.out _ b1).mono ?_); rintro e w2 ⟨rfl, hb2⟩; have b2 := bl_trans b1 hb2))
      go_ret
      exact ⟨by rw [E.out]; rfl, b2⟩
end Nt
end Go.Proofs.YtodphjnhoinpeaaGreatDoor
namespace Go.Proofs.YtodphjnhoinpeaaGreatDoor
open Go.RowKit
namespace Nt

set_option maxRecDepth 100000 in
set_option maxHeartbeats 1000000 in
/-- The reference's SameInt. -/
theorem sameInt_any (s t : Bool) (A B : Option Addr) (c d n m : Nat) (xs ys : List Nat) (w : World) (hn : xs.length = n) (hm : ys.length = m) (hx : Sl w A xs) (hy : Sl w B ys) (hl : n ≤ 1000000) (hl' : m ≤ 1000000) :
    Calls Tryz.prog 67 #[.agg #[.bool s, .slice A n c], .agg #[.bool t, .slice B m d]] w fun e w' => e = .returned (.bool (decide (s = t ∧ xs = ys))) ∧ Below w.heap.size w w' := by
  have S := hide (fun W (h : Below w.heap.size w W) => same_any A B c d xs ys W (bl_keeps h _ _ hx) (bl_keeps h _ _ hy) (by omega) (by omega))
  rw [hn, hm] at S
  have b0 : Below w.heap.size w ((w.alloc (.cells #[.bool s, .slice A n c] 41)).alloc (.cells #[.bool t, .slice B m d] 41)) := bl_al (bl_al (.refl _ _) _) _
  obtain ⟨x1, x2, x3, x4⟩ := Bx2.start s A n c t B m d w
  clear hx hy hn hm
  by_cases hst : s = t
  · subst hst
    have E := hide (show decide (s = s ∧ xs = ys) = decide (xs = ys) by simp)
    generalize decide (xs = ys) = r at *
    go_enter Tryz.func67, Tryz.ntmps67
    go_wp2_with (go_at_call 54; (with_reducible refine (S.out _ b0).mono ?_); rintro e w1 ⟨rfl, q0, h0⟩; have b1 := bl_trans b0 (bl_q0 h0); clear h0)
    go_ret
    exact ⟨by rw [E.out]; rfl, b1⟩
  · have E := hide (show decide (s = t ∧ xs = ys) = false by simp [hst])
    clear S
    cases s <;> cases t <;> first
    | exact absurd rfl hst
    | (go_enter Tryz.func67, Tryz.ntmps67
       go_wp2
       go_ret
       exact ⟨by rw [E.out]; rfl, b0⟩)

set_option maxRecDepth 100000 in
set_option maxHeartbeats 1000000 in
/-- The second law's same. -/
theorem same2_any (s t : Bool) (A B : Option Addr) (c d n m : Nat) (xs ys : List Nat) (w : World) (hn : xs.length = n) (hm : ys.length = m) (hx : Sl w A xs) (hy : Sl w B ys) (hl : n ≤ 1000000) (hl' : m ≤ 1000000) :
    Calls Tryz.prog 30 #[.agg #[.bool s, .slice A n c], .agg #[.bool t, .slice B m d]] w fun e w' => e = .returned (.bool (decide (s = t ∧ xs = ys))) ∧ Below w.heap.size w w' := by
  have S := hide (fun W (h : Below w.heap.size w W) => sameInt_any s t A B c d n m xs ys W hn hm (bl_keeps h _ _ hx) (bl_keeps h _ _ hy) hl hl')
  have b0 : Below w.heap.size w ((w.alloc (.cells #[.bool s, .slice A n c] 41)).alloc (.cells #[.bool t, .slice B m d] 41)) := bl_al (bl_al (.refl _ _) _) _
  obtain ⟨x1, x2, x3, x4⟩ := Bx2.start s A n c t B m d w
  clear hx hy hn hm
  generalize decide (s = t ∧ xs = ys) = r at *
  go_enter Tryz.func30, Tryz.ntmps30
  go_wp2_with (go_at_call 67; (with_reducible refine (S.out _ b0).mono ?_); rintro e w1 ⟨rfl, hb⟩; have b1 := bl_trans b0 hb; clear hb)
  go_ret
  exact ⟨rfl, b1⟩
theorem same2_t (s t : Bool) (A B : Option Addr) (c d n m : Nat) (xs ys : List Nat) (w : World) (hn : xs.length = n) (hm : ys.length = m) (hx : Sl w A xs) (hy : Sl w B ys) (hl : n ≤ 1000000) (hl' : m ≤ 1000000) (e1 : s = t) (e2 : xs = ys) :
    Calls Tryz.prog 30 #[.agg #[.bool s, .slice A n c], .agg #[.bool t, .slice B m d]] w fun e w' => e = .returned (.bool true) ∧ Below w.heap.size w w' := by
  have := same2_any s t A B c d n m xs ys w hn hm hx hy hl hl'
  rwa [decide_eq_true ⟨e1, e2⟩] at this
end Nt
end Go.Proofs.YtodphjnhoinpeaaGreatDoor
