/-
  The law SortsLevels: the steps.
-/
import Derived.Test.YtlcgdiciiibeeaaSd
namespace Go.Proofs.Ytlcgdiciiibeeaa
open Go.ChangeShapes Go.RowKit
namespace Nt
set_option maxRecDepth 100000
set_option linter.unusedSimpArgs false
set_option linter.unusedVariables false

theorem cat_S (t : TypeId) (n : Nat) : binOp .add t (.string ⟨#[83]⟩) (.string (nmK n)) = pure (.string (sN n)) := by
  simp [binOp, Op.stringOp, nmK, sN]; rfl
theorem cat_F (t : TypeId) (n : Nat) : binOp .add t (.string ⟨#[102]⟩) (.string (nmK n)) = pure (.string (fN n)) := by
  simp [binOp, Op.stringOp, nmK, fN]; rfl

section
variable {B p : Nat} {w0 : World} {v : Value} {ats ds : List Nat} {lv : Nat} {wx : World}
/-- What stands within the loops. -/
def LevI (B p : Nat) (w0 : World) (v : Value) (ats : List Nat) (lv : Nat) (ds : List Nat) (wx : World) : Prop :=
  (∀ l ∈ ds, l ≤ lv) ∧ (∀ q (h : q < ats.length), kN q ds = ats[q]) ∧ Tw v.ownBlock.toList B w0 wx p (2 * ds.length) lv (soD ds) (fuD ds) (tyD ds) ∧ Iw B wx v ats
/-- The same behind a sort. -/
def LevS (B p : Nat) (w0 : World) (v : Value) (ats : List Nat) (lv : Nat) (ds : List Nat) (wx : World) : Prop :=
  (∀ l ∈ ds, l ≤ lv) ∧ (∀ q (h : q < ats.length), kN q ds = ats[q]) ∧ Tw v.ownBlock.toList B w0 wx p (2 * ds.length + 1) lv (soD (ds ++ [lv])) (fuD ds) (tyD ds) ∧ Iw B wx v ats

theorem lev_start (h : Tw [] B w0 wx p 0 0 [] [] []) : LevI B p w0 (.slice none 0 0) [] 0 [] wx := ⟨by simp, by simp, h, Iw.nil _ _⟩

theorem lev_push (h : LevI B p w0 v ats lv ds wx) (ha : ats.length = lv) (hlv : lv ≤ 8) :
    ∃ A' c' w1, (∀ ty, (Builtin.append_ #[33, 33] ty #[v, .slice (some ⟨wx.heap.size, 0, none⟩) 1 1]).run Try.prog (wx.alloc (.cells #[.int .i64 (ds.length : Int)] 3)) = .ok (.slice A' (lv + 1) c') w1) ∧
      Calls Try.prog 14 #[.pointer (some ⟨p, 0, none⟩)] w1 fun e w' => e = .returned (.tuple #[]) ∧ LevI B p w0 (.slice A' (lv + 1) c') (ats ++ [ds.length]) (lv + 1) ds w' := by
  obtain ⟨h1, h2, h3, h4⟩ := h
  obtain ⟨A', c', w1, hr, hi, hO, hn⟩ := h4.push h3.base ds.length (by omega)
  rw [ha] at hr hi hn
  refine ⟨A', c', w1, hr, ?_⟩
  have hk : kN lv ds = ds.length := kN_all h1
  have t : Tw (Value.slice A' (lv + 1) c').ownBlock.toList B w0 w1 p (2 * ds.length) lv (soD ds) (fuD ds) (tyD ds) := h3.offY hO (fun b hb => ⟨hb, by
    rw [Option.mem_toList] at hb
    exact row_base h4 hb⟩) (fun b hb => ⟨hn b hb, by
    rw [Option.mem_toList] at hb
    exact row_lt hi hb⟩)
  refine (tw_push t (by omega)).mono fun e w' ⟨he, t2, hs⟩ => ⟨he, fun l hl => Nat.le_succ_of_le (h1 l hl), fun q hq => ?_, t2, hi.keep hs⟩
  by_cases e : q < ats.length
  · rw [List.getElem_append_left e]; exact h2 q e
  · have : q = ats.length := by simp at hq; omega
    subst this
    simp only [List.getElem_concat_length]
    rw [ha, hk]

theorem lev_sort (h : LevI B p w0 v ats lv ds wx) (hd : ds.length < 32) :
    Calls Try.prog 10 #[.pointer (some ⟨p, 0, none⟩), .string (sN ds.length)] (wx.alloc (.cells #[.int .u8 (97 + (ds.length : Int))] 5)) fun e w' => e = .returned (.tuple #[.int .i64 ((ds.length : Int) + 2), .int .i64 0]) ∧ LevS B p w0 v ats lv ds w' := by
  obtain ⟨h1, h2, h3, h4⟩ := h
  have hb : Below wx.heap.size wx (wx.alloc (.cells #[.int .u8 (97 + (ds.length : Int))] 5)) := bel_al _ _
  have he : (soD ds).map Prod.fst = (List.range ds.length).map sN := by
    have := soD_fst ds ds.length (Nat.le_refl _)
    rwa [List.take_of_length_le (by rw [soD_len]; exact Nat.le_refl _)] at this
  have hf : freeB (soD ds) (sN ds.length) = true := by
    unfold freeB
    rw [sN_ok _ hd, has_names he sN_eq (by omega) hd, decide_eq_false (Nat.lt_irrefl _)]; rfl
  refine (tw_sort (h3.next hb) (sN ds.length) hf (small_name (n := 2) rfl (by omega)) (by omega)).mono fun e w' ⟨hr, t, hs⟩ => ⟨by rw [hr, soD_len], h1, h2, ?_, ?_⟩
  · rw [soD_snoc]; exact t
  · exact (h4.keep (Same.of_below hb (fun b hb => h3.lt hb))).keep hs

theorem lev_fun (h : LevS B p w0 v ats lv ds wx) (hd : ds.length < 32) (ha : ats.length ≤ lv) :
    Calls Try.prog 12 #[.pointer (some ⟨p, 0, none⟩), .agg #[.string (fN ds.length), .slice (some ⟨wx.heap.size + 1, 0, none⟩) 1 1, .int .i64 ((ds.length : Int) + 2)]] ((wx.alloc (.cells #[.int .u8 (97 + (ds.length : Int))] 5)).alloc (.cells #[.int .i64 ((ds.length : Int) + 2)] 3)) fun e w' =>
      e = .returned (.int .i64 0) ∧ LevI B p w0 v ats lv (ds ++ [lv]) w' := by
  obtain ⟨h1, h2, h3, h4⟩ := h
  obtain ⟨W, hW⟩ : ∃ W, W = ((wx.alloc (.cells #[.int .u8 (97 + (ds.length : Int))] 5)).alloc (.cells #[.int .i64 ((ds.length : Int) + 2)] 3)) := ⟨_, rfl⟩
  rw [← hW]
  have hb : Below wx.heap.size wx W := by rw [hW]; exact ((Below.refl _ _).alloc (Nat.le_refl _) _).alloc (by simp) _
  have hz : W.heap.size = wx.heap.size + 2 := by rw [hW]; simp
  have t : Tw ((wx.heap.size + 1) :: v.ownBlock.toList) B w0 W p (2 * ds.length + 1) lv (soD (ds ++ [lv])) (fuD ds) (tyD ds) := h3.turn hb (fun b hb => by
    rcases List.mem_cons.1 hb with rfl | hb
    · exact ⟨.inr (by omega), by omega⟩
    · exact ⟨.inl hb, by have := h3.lt hb; omega⟩)
  have hX : Bk (wx.heap.size + 1) #[.int .i64 ((ds.length : Int) + 2)] 3 W := by rw [hW]; exact Bk.new1 _ _ _ _
  have hA : Ar ((wx.heap.size + 1) :: v.ownBlock.toList) W (some ⟨wx.heap.size + 1, 0, none⟩) [(ds.length : Int) + 2] := .inr ⟨_, 0, rfl, by simp, fun j hj => by
    match j, hj with
    | 0, _ => exact hX.cell rfl
    | j + 1, h => simp at h⟩
  have he : (fuD ds).map Prod.fst = (List.range ds.length).map fN := by
    have := fuD_fst ds ds.length (Nat.le_refl _)
    rwa [List.take_of_length_le (by rw [fuD_len]; exact Nat.le_refl _)] at this
  have hf : freeB (fuD ds) (fN ds.length) = true := by
    unfold freeB
    rw [fN_ok _ hd, has_names he fN_eq (by omega) hd, decide_eq_false (Nat.lt_irrefl _)]; rfl
  have ht : typedB (soD (ds ++ [lv])).length [(ds.length : Int) + 2] ((ds.length : Int) + 2) = true := by
    have hl : (soD (ds ++ [lv])).length = ds.length + 1 := by rw [soD_len]; simp
    have hk : knownB (ds.length + 1) ((ds.length : Int) + 2) = true := by
      simp only [knownB, Bool.and_eq_true, decide_eq_true_eq]; omega
    have ha : argB (ds.length + 1) ((ds.length : Int) + 2) = true := by
      simp only [argB, Bool.and_eq_true, decide_eq_true_eq]; exact ⟨by omega, hk⟩
    rw [hl]
    simp [typedB, hk, ha]
  refine (tw_fun t (fN ds.length) _ [(ds.length : Int) + 2] 1 ((ds.length : Int) + 2) hA hf ht (small_name (n := 2) rfl (by omega)) (by omega) (by rw [fuD_len]; omega)).mono fun e w' ⟨hr, t2, hs⟩ => ⟨hr, ?_, ?_, ?_, ?_⟩
  · intro l hl
    rcases List.mem_append.1 hl with hl | hl
    · exact h1 l hl
    · simp at hl; omega
  · intro q hq
    rw [kN_snoc_gt _ (by omega)]
    exact h2 q hq
  · have e1 : 2 * (ds ++ [lv]).length = 2 * ds.length + 1 + 1 := by simp; omega
    rw [e1, fuD_snoc, tyD_snoc]
    exact t2.less (fun b hb => List.mem_cons_of_mem _ hb)
  · exact (h4.keep (Same.of_below hb (fun b hb => h3.lt hb))).keep (hs.less (fun b hb => List.mem_cons_of_mem _ hb))

/-- What is left of it. -/
def LevF (B p : Nat) (w0 : World) (N l m : Nat) (ds : List Nat) (wx : World) : Prop :=
  m ≤ ds.length ∧ Tw [] B w0 wx p N l ((soD ds).take m) ((fuD ds).take m) ((tyD ds).take m)

theorem lev_pop (h : LevI B p w0 v ats lv ds wx) (hlv : lv ≤ 8) (hd : ds.length ≤ 32) (k l : Nat) (hl : l + k = lv) :
    Calls Try.prog 16 #[.pointer (some ⟨p, 0, none⟩), .int .i64 (k : Int)] wx fun e w' => e = .returned (.int .i64 0) ∧ LevF B p w0 (2 * ds.length) l (kN l ds) ds w' ∧ Iw B w' v ats := by
  obtain ⟨h1, h2, h3, h4⟩ := h
  have e1 : keepL l (soD ds) = (soD ds).take (kN l ds) := by rw [keepL_kN, soD_snd]
  have e2 : keepL l (fuD ds) = (fuD ds).take (kN l ds) := by rw [keepL_kN, fuD_snd]
  have e3 : ((fuD ds).take (kN l ds)).length = kN l ds := by rw [List.length_take, fuD_len]; have := kN_le l ds; omega
  by_cases hk : k = 0
  · subst hk
    have hll : l = lv := by omega
    subst hll
    have hkn := kN_all h1
    refine (tw_pop_zero h3).mono fun e w' ⟨he, hw⟩ => ?_
    subst hw
    refine ⟨he, ⟨kN_le _ _, ?_⟩, h4⟩
    rw [hkn, List.take_of_length_le (by rw [soD_len]; exact Nat.le_refl _), List.take_of_length_le (by rw [fuD_len]; exact Nat.le_refl _), List.take_of_length_le (by rw [tyD_len]; exact Nat.le_refl _)]
    exact h3.less (by simp)
  · refine (tw_pop h3 k l (by omega) hl (by omega) (by omega)).mono fun e w' ⟨he, t, hs⟩ => ⟨he, ⟨kN_le _ _, ?_⟩, h4.keep hs⟩
    rw [e1, e2, e3] at t
    exact t.less (by simp)

variable {N l m : Nat}
theorem LevF.next {w' : World} (h : LevF B p w0 N l m ds wx) (hb : Below wx.heap.size wx w') : LevF B p w0 N l m ds w' := ⟨h.1, h.2.next hb⟩
theorem lev_levels (h : LevF B p w0 N l m ds wx) : Calls Try.prog 27 #[.pointer (some ⟨p, 0, none⟩)] wx fun e w' => e = .returned (.int .i64 (l : Int)) ∧ wx = w' := tw_levels h.2
theorem lev_find (h : LevF B p w0 N l m ds wx) (hN : N ≤ 1000) (hd : ds.length ≤ 32) (i : Nat) (hi : i < 32) :
    Calls Try.prog 18 #[.pointer (some ⟨p, 0, none⟩), .string (fN i)] wx fun e w' => ∃ nm A n c r, e = .returned (.tuple #[.agg #[.string nm, .slice A n c, .int .i64 r], .bool (decide (i < m))]) ∧ LevF B p w0 N l m ds w' := by
  have he := fuD_fst ds m h.1
  have hh := has_names he fN_eq (by have := h.1; omega) hi
  by_cases hc : i < m
  · have hlt : i < ((tyD ds).take m).length := by rw [List.length_take, tyD_len]; have := h.1; omega
    refine (tw_find h.2 (fN i) (small_name (n := 2) rfl (by omega)) (by omega) i hlt (by rw [tyD_nm])).mono fun e w' ⟨A, c, hr, _, hb⟩ => ⟨((tyD ds).take m)[i].nm, A, ((tyD ds).take m)[i].ar.length, c, ((tyD ds).take m)[i].rs, by rw [hr, decide_eq_true hc], h.next hb⟩
  · rw [decide_eq_false hc] at hh ⊢
    exact (tw_find_no h.2 (fN i) (small_name (n := 2) rfl (by omega)) hh).mono fun e w' ⟨hr, hb⟩ => ⟨_, _, _, _, _, hr, h.next hb⟩
theorem lev_fsort (h : LevF B p w0 N l m ds wx) (hN : N ≤ 1000) (hd : ds.length ≤ 32) (i : Nat) (hi : i < 32) :
    Calls Try.prog 21 #[.pointer (some ⟨p, 0, none⟩), .string (sN i)] wx fun e w' => e = .returned (.tuple #[.int .i64 (if i < m then (i : Int) + 2 else 0), .bool (decide (i < m))]) ∧ wx = w' := by
  have he := soD_fst ds m h.1
  have hh := has_names he sN_eq (by have := h.1; omega) hi
  obtain ⟨b1, b2, _⟩ := sN_bool i hi
  have r1 : fsB ((soD ds).take m) (sN i) = decide (i < m) := by simp [fsB, b1, b2, hh]
  have r2 : fsI ((soD ds).take m) (sN i) = if i < m then (i : Int) + 2 else 0 := by
    unfold fsI
    rw [if_neg b1, if_neg b2, hh]
    by_cases hc : i < m
    · rw [decide_eq_true hc, if_pos rfl, if_pos hc, ix_names he sN_eq (by have := h.1; omega) hc]
    · rw [decide_eq_false hc, if_neg (by simp), if_neg hc]
  rw [← r1, ← r2]
  exact tw_fsort h.2 (sN i) (small_name (n := 2) rfl (by omega)) (by omega)
theorem lev_new (h : LevF B p w0 N l m ds wx) (hN : N ≤ 1000) (hd : ds.length ≤ 32) :
    Calls Try.prog 10 #[.pointer (some ⟨p, 0, none⟩), .string ⟨#[110, 101, 119]⟩] wx fun e w' => e = .returned (.tuple #[.int .i64 ((m : Int) + 2), .int .i64 0]) ∧
      Calls Try.prog 25 #[.pointer (some ⟨p, 0, none⟩)] w' (fun e w2 => ∃ g c, e = .returned (.slice (some ⟨g, 0, none⟩) m c) ∧ Below B w0 w2 ∧ B ≤ w2.heap.size ∧ Calls Try.prog 16 #[.pointer (some ⟨p, 0, none⟩), .int .i64 ((l : Int) + 1)] w2 (fun e w3 => e = .returned (.int .i64 5) ∧ w2 = w3)) := by
  have he := soD_fst ds m h.1
  have hn := has_new he (by have := h.1; omega)
  have hf : freeB ((soD ds).take m) ⟨#[110, 101, 119]⟩ = true := by
    unfold freeB
    rw [hn]
    decide
  have hl : ((soD ds).take m).length = m := by rw [List.length_take, soD_len]; have := h.1; omega
  have hl2 : ((tyD ds).take m).length = m := by rw [List.length_take, tyD_len]; have := h.1; omega
  refine (tw_sort h.2 ⟨#[110, 101, 119]⟩ hf (small_name (n := 3) rfl (by omega)) (by omega)).mono fun e w' ⟨hr, t, _⟩ => ⟨by rw [hr, hl], ?_⟩
  refine (tw_funs t (by omega)).mono fun e w2 ⟨g, c, hr, _, _, hb⟩ => ⟨g, c, by rw [hr, hl2], (t.next hb).below, (t.next hb).base, ?_⟩
  have := tw_pop_many (t.next hb) (l + 1) (by omega)
  simpa using this
end
end Nt
end Go.Proofs.Ytlcgdiciiibeeaa
