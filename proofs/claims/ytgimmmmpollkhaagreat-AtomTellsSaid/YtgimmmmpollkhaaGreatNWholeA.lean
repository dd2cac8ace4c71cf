
/-
  Plain mathematics: whole numbers, a sign and a row.
  Package whole: signed, Valid.
  Package whole: Sign, Cmp, Mul.
  Package whole: Add, Sub, Neg.
  Package whole: Neg, Sub.
  Package whole: Of, Value.
-/
import Derived.Test.YtgimmmmpollkhaaGreatNMath4
import Derived.Test.YtgimmmmpollkhaaGreatNSub
import Derived.Test.YtgimmmmpollkhaaGreatNRefAdd
import Derived.Test.YtgimmmmpollkhaaGreatNSmall
import Derived.Test.YtgimmmmpollkhaaGreatNOf
import Derived.Test.YtgimmmmpollkhaaGreatNBl
import Derived.Deep.RegionHeld3
namespace Go.Proofs.YtgimmmmpollkhaaGreat

open Go.RowKit

namespace Nt

def ival (s : Bool) (xs : List Nat) : Int := if s then -(val xs : Int) else (val xs : Int)
def validI (s : Bool) (xs : List Nat) : Bool := validB xs && (!s || decide (0 < xs.length))
def isg (z : Int) : Bool := decide (z < 0)
def idg (z : Int) : List Nat := digs z.natAbs
theorem ival_pos (xs : List Nat) : ival false xs = (val xs : Int) := rfl
theorem ival_neg (xs : List Nat) : ival true xs = -(val xs : Int) := rfl
theorem validI_iff {s : Bool} {xs : List Nat} : validI s xs = true ↔ validB xs = true ∧ (s = true → 0 < xs.length) := by
  unfold validI; cases s <;> simp
theorem validI_B {s : Bool} {xs : List Nat} (h : validI s xs = true) : validB xs = true := (validI_iff.1 h).1
theorem val_pos {xs : List Nat} (l : Limbs xs) (v : validB xs = true) (h : 0 < xs.length) : 0 < val xs := by
  have := (val_eq_zero l (validB_iff.1 v).2)
  rcases Nat.eq_zero_or_pos (val xs) with h0 | h0
  · rw [this.1 h0] at h; simp at h
  · exact h0
theorem isg_ival {s : Bool} {xs : List Nat} (l : Limbs xs) (h : validI s xs = true) : isg (ival s xs) = s := by
  obtain ⟨v, hp⟩ := validI_iff.1 h
  cases s with
  | false => simp [isg, ival]
  | true =>
    have := val_pos l v (hp rfl)
    simp [isg, ival]; omega
theorem ival_mk (z : Int) : ival (isg z) (idg z) = z := by
  unfold ival isg idg
  rw [val_digs]
  by_cases h : z < 0
  · simp [h]; omega
  · simp [h]; omega
theorem digs_len_pos {n : Nat} : 0 < (digs n).length ↔ 0 < n := by
  constructor
  · intro h
    rcases Nat.eq_zero_or_pos n with h0 | h0
    · subst h0; rw [digs_zero] at h; simp at h
    · exact h0
  · intro h
    rcases Nat.eq_zero_or_pos (digs n).length with h0 | h0
    · have := digs_eq_nil.1 (List.eq_nil_of_length_eq_zero h0); omega
    · exact h0
theorem isg_sgn (s : Bool) (n : Nat) : (s && decide (0 < (digs n).length)) = isg (if s then -(n : Int) else n) := by
  unfold isg
  cases s with
  | false => simp
  | true =>
    have e : decide (0 < (digs n).length) = decide (0 < n) := by rw [decide_eq_decide]; exact digs_len_pos
    rw [e]
    simp only [Bool.true_and, if_true, decide_eq_decide]
    omega
theorem idg_sgn (s : Bool) (n : Nat) : idg (if s then -(n : Int) else n) = digs n := by
  unfold idg; cases s <;> simp
def cmpZ (a b : Int) : Int := if a < b then -1 else if b < a then 1 else 0
def sgnISp (s : Bool) (xs : List Nat) : Int := if validI s xs then cmpZ (ival s xs) 0 else 0

theorem cmpZ_pp (a b : Nat) : cmpZ (a : Int) (b : Int) = cmpN a b := by
  unfold cmpZ cmpN
  simp only [Int.ofNat_lt]
theorem cmpZ_nn (a b : Nat) : cmpZ (-(a : Int)) (-(b : Int)) = cmpN b a := by
  unfold cmpZ cmpN
  simp only [Int.neg_lt_neg_iff, Int.ofNat_lt]
end Nt

end Go.Proofs.YtgimmmmpollkhaaGreat

namespace Go.Proofs.YtgimmmmpollkhaaGreat

open Go.RowKit

namespace Nt

theorem bcell {W w1 : World} (hb : Below W.heap.size W w1) : (∀ b o, b < W.heap.size → w1.cell? ⟨b, o, none⟩ = W.cell? ⟨b, o, none⟩) ∧ (∀ b o, b < W.heap.size → w1.frozen? ⟨b, o, none⟩ = W.frozen? ⟨b, o, none⟩) :=
  ⟨fun b o h => hb.cell (p := ⟨b, o, none⟩) h, fun b o h => hb.frozen (p := ⟨b, o, none⟩) h⟩

set_option maxHeartbeats 400000 in
theorem validI_any (s : Bool) (A : Option Addr) (c : Nat) (xs : List Nat) (w : World) (hs : Sl w A xs) (hl : xs.length ≤ 9223372036854775807) :
    Calls Tryz.prog 96 #[.agg #[.bool s, .slice A xs.length c]] w fun e w' => e = .returned (.bool (validI s xs)) ∧ Below w.heap.size w w' := by
  have V := hide (fun W (h : Sl W A xs) => valid_any A c xs W h hl)
  have HS := hide hs
  clear hs
  cases hv : validB xs with
  | false =>
    have E := hide (show validI s xs = false by unfold validI; rw [hv]; rfl)
    rw [hv] at V
    clear hv
    generalize xs.length = n at *
    go_enter Tryz.func96, Tryz.ntmps96
    go_wp2_with (go_at_call 98; (with_reducible refine (V.out _ (HS.out.alloc _)).mono ?_); rintro e w' ⟨rfl, rfl⟩)
    go_ret
    exact ⟨ret_bool E.out.symm, ((Below.refl _ _).alloc (Nat.le_refl _) _)⟩
  | true =>
    have E := hide (show validI s xs = (!s || decide (0 < xs.length)) by unfold validI; rw [hv]; rfl)
    rw [hv] at V
    clear hv
    generalize xs.length = n at *
    by_cases h0 : n = 0
    · subst h0
      cases s <;>
      · go_enter Tryz.func96, Tryz.ntmps96
        go_wp2_with (go_at_call 98; (with_reducible refine (V.out _ (HS.out.alloc _)).mono ?_); rintro e w' ⟨rfl, rfl⟩)
        go_ret
        exact ⟨ret_bool (by rw [E.out]; rfl), ((Below.refl _ _).alloc (Nat.le_refl _) _)⟩
    · have hp : 0 < n := by omega
      have E2 := hide (show (!s || decide (0 < n)) = true by simp [hp])
      clear h0
      go_enter Tryz.func96, Tryz.ntmps96
      go_wp2_with (go_at_call 98; (with_reducible refine (V.out _ (HS.out.alloc _)).mono ?_); rintro e w' ⟨rfl, rfl⟩)
      go_ret
      exact ⟨ret_bool (by rw [E.out, E2.out]), ((Below.refl _ _).alloc (Nat.le_refl _) _)⟩
end Nt

end Go.Proofs.YtgimmmmpollkhaaGreat

namespace Go.Proofs.YtgimmmmpollkhaaGreat

open Go.RowKit

namespace Nt

set_option maxHeartbeats 400000 in
theorem signI_any (s : Bool) (A : Option Addr) (c : Nat) (xs : List Nat) (w : World) (hs : Sl w A xs) (lx : Limbs xs) (hl : xs.length ≤ 1000000) :
    Calls Tryz.prog 117 #[.agg #[.bool s, .slice A xs.length c]] w fun e w' => e = .returned (.int .i64 (sgnISp s xs)) ∧ Below w.heap.size w w' := by
  have V := hide (fun W (h : Sl W A xs) => validI_any s A c xs W h (by omega))
  have HS := hide hs
  have b : Below w.heap.size w (w.alloc (.cells #[.bool s, .slice A xs.length c] 104)) := (Below.refl _ _).alloc (Nat.le_refl _) _
  clear hs
  cases hv : validI s xs with
  | false =>
    have E := hide (show sgnISp s xs = 0 by unfold sgnISp; rw [hv]; rfl)
    rw [hv] at V
    clear hv lx
    generalize xs.length = n at *
    go_enter Tryz.func117, Tryz.ntmps117
    go_wp2_with (go_at_call 96; (with_reducible refine (V.out _ (HS.out.alloc _)).mono ?_); rintro e w1 ⟨rfl, hb⟩; obtain ⟨hc, hf⟩ := bcell hb)
    go_ret
    exact ⟨ret_one E.out.symm, bl_one hb⟩
  | true =>
    have hI := isg_ival lx hv
    have hB := validI_B hv
    by_cases h0 : xs.length = 0
    · have E := hide (show sgnISp s xs = 0 by
        unfold sgnISp; rw [hv]
        have : xs = [] := List.eq_nil_of_length_eq_zero h0
        subst this
        cases s <;> rfl)
      rw [hv] at V
      clear hv lx hI hB
      generalize xs.length = n at *
      subst h0
      go_enter Tryz.func117, Tryz.ntmps117
      go_wp2_with (go_at_call 96; (with_reducible refine (V.out _ (HS.out.alloc _)).mono ?_); rintro e w1 ⟨rfl, hb⟩; obtain ⟨hc, hf⟩ := bcell hb)
      go_ret
      exact ⟨ret_one E.out.symm, bl_one hb⟩
    · have hp := val_pos lx hB (by omega)
      have h0' : ((xs.length : Int) == 0) = false := beq_eq_false_iff_ne.2 (by omega)
      cases s with
      | true =>
        have E := hide (show sgnISp true xs = -1 by unfold sgnISp cmpZ; rw [hv, ival_neg, if_pos rfl, if_pos (by omega)])
        rw [hv] at V
        clear hv lx hI hB hp h0
        generalize xs.length = n at *
        go_enter Tryz.func117, Tryz.ntmps117
        go_wp2_with (go_at_call 96; (with_reducible refine (V.out _ (HS.out.alloc _)).mono ?_); rintro e w1 ⟨rfl, hb⟩; obtain ⟨hc, hf⟩ := bcell hb)
        go_ret
        exact ⟨ret_one E.out.symm, bl_one hb⟩
      | false =>
        have E := hide (show sgnISp false xs = 1 by unfold sgnISp cmpZ; rw [hv, ival_pos, if_pos rfl, if_neg (by omega), if_pos (by omega)])
        rw [hv] at V
        clear hv lx hI hB hp h0
        generalize xs.length = n at *
        go_enter Tryz.func117, Tryz.ntmps117
        go_wp2_with (go_at_call 96; (with_reducible refine (V.out _ (HS.out.alloc _)).mono ?_); rintro e w1 ⟨rfl, hb⟩; obtain ⟨hc, hf⟩ := bcell hb)
        go_ret
        exact ⟨ret_one E.out.symm, bl_one hb⟩
theorem bl_al {w w' : World} (h : Below w.heap.size w w') (x : Obj) : Below w.heap.size w (w'.alloc x) := h.alloc h.size _
def ITwo (w : World) (r : Bool × List Nat × Nat) (e : Ending) (w' : World) : Prop := ∃ A c, e = .returned (.tuple #[.agg #[.bool r.1, .slice A r.2.1.length c], .int .i64 (r.2.2 : Int)]) ∧ Sl w' A r.2.1 ∧ Below w.heap.size w w'
theorem ITwo.mk {w w' : World} {r : Bool × List Nat × Nat} {s : Bool} {xs : List Nat} {n k c : Nat} {A : Option Addr} (hr : r = (s, xs, k)) (hn : xs.length = n) (hs : Sl w' A xs) (hb : Below w.heap.size w w') : ITwo w r (.returned (.tuple #[.agg #[.bool s, .slice A n c], .int .i64 (k : Int)])) w' := by
  subst hr; subst hn; exact ⟨A, c, rfl, hs, hb⟩
theorem cell_next {w w' : World} (hb : Below w.heap.size w w') {p : Addr} {v : Value} (h : w.cell? p = some v) : w'.cell? p = some v := by
  rw [← h]
  refine hb.cell ?_
  unfold World.cell? at h
  cases hh : w.heap[p.block]? with
  | none => rw [hh] at h; cases h
  | some y => exact (Array.getElem?_eq_some_iff.1 hh).1
theorem frozen_next {w w' : World} (hb : Below w.heap.size w w') {p : Addr} {v : Value} (h : w.cell? p = some v) (hf : w.frozen? p = false) : w'.frozen? p = false := by
  rw [← hf]
  refine hb.frozen ?_
  unfold World.cell? at h
  cases hh : w.heap[p.block]? with
  | none => rw [hh] at h; cases h
  | some y => exact (Array.getElem?_eq_some_iff.1 hh).1
def Bx3 (h : Nat) (s : Bool) (A : Option Addr) (n c : Nat) (t : Bool) (B : Option Addr) (m d : Nat) (w : World) : Prop :=
  w.cell? ⟨h, 0, none⟩ = some (.bool s) ∧ w.cell? ⟨h, 1, none⟩ = some (.slice A n c) ∧ w.cell? ⟨h + 1, 0, none⟩ = some (.bool t) ∧ w.cell? ⟨h + 1, 1, none⟩ = some (.slice B m d) ∧
  w.cell? ⟨h + 1 + 1, 0, none⟩ = some (.bool false) ∧ w.cell? ⟨h + 1 + 1, 1, none⟩ = some (.slice none 0 0) ∧ w.frozen? ⟨h + 1 + 1, 0, none⟩ = false ∧ w.frozen? ⟨h + 1 + 1, 1, none⟩ = false ∧
  w.frozen? ⟨h, 0, none⟩ = false ∧ w.frozen? ⟨h, 1, none⟩ = false ∧ w.frozen? ⟨h + 1, 0, none⟩ = false ∧ w.frozen? ⟨h + 1, 1, none⟩ = false
theorem Bx3.next {h : Nat} {s : Bool} {A : Option Addr} {n c : Nat} {t : Bool} {B : Option Addr} {m d : Nat} {w w' : World} (x : Bx3 h s A n c t B m d w) (hb : Below w.heap.size w w') : Bx3 h s A n c t B m d w' := by
  obtain ⟨h1, h2, h3, h4, h5, h6, h7, h8, f1, f2, f3, f4⟩ := x
  exact ⟨cell_next hb h1, cell_next hb h2, cell_next hb h3, cell_next hb h4, cell_next hb h5, cell_next hb h6, frozen_next hb h5 h7, frozen_next hb h6 h8, frozen_next hb h1 f1, frozen_next hb h2 f2, frozen_next hb h3 f3, frozen_next hb h4 f4⟩
theorem Bx3.start (s : Bool) (A : Option Addr) (n c : Nat) (t : Bool) (B : Option Addr) (m d : Nat) (w : World) : Bx3 w.heap.size s A n c t B m d (((w.alloc (.cells #[.bool s, .slice A n c] 104)).alloc (.cells #[.bool t, .slice B m d] 104)).alloc (.cells #[.bool false, .slice none 0 0] 104)) := by
  have b1 := bl_al (.refl _ ((w.alloc (.cells #[.bool s, .slice A n c] 104)).alloc (.cells #[.bool t, .slice B m d] 104))) (.cells #[.bool false, .slice none 0 0] 104)
  have b0 := bl_al (.refl _ (w.alloc (.cells #[.bool s, .slice A n c] 104))) (.cells #[.bool t, .slice B m d] 104)
  have e1 : (w.alloc (.cells #[.bool s, .slice A n c] 104)).heap.size = w.heap.size + 1 := size1 _ _
  have e2 : ((w.alloc (.cells #[.bool s, .slice A n c] 104)).alloc (.cells #[.bool t, .slice B m d] 104)).heap.size = w.heap.size + 1 + 1 := by rw [size1, size1]
  have c0 := cell_new w #[.bool s, .slice A n c] 104
  have c1 := cell_new (w.alloc (.cells #[.bool s, .slice A n c] 104)) #[.bool t, .slice B m d] 104
  have c2 := cell_new ((w.alloc (.cells #[.bool s, .slice A n c] 104)).alloc (.cells #[.bool t, .slice B m d] 104)) #[.bool false, .slice none 0 0] 104
  rw [e1] at c1
  rw [e2] at c2
  have hn := heap_alloc_new ((w.alloc (.cells #[.bool s, .slice A n c] 104)).alloc (.cells #[.bool t, .slice B m d] 104)) (.cells #[.bool false, .slice none 0 0] 104)
  rw [e2] at hn
  have hn1 := heap_alloc_new (w.alloc (.cells #[.bool s, .slice A n c] 104)) (.cells #[.bool t, .slice B m d] 104)
  rw [e1] at hn1
  have hn0 := heap_alloc_new w (.cells #[.bool s, .slice A n c] 104)
  exact ⟨cell_next b1 (cell_next b0 (c0 0)), cell_next b1 (cell_next b0 (c0 1)), cell_next b1 (c1 0), cell_next b1 (c1 1), c2 0, c2 1, by unfold World.frozen?; rw [hn]; rfl, by unfold World.frozen?; rw [hn]; rfl,
    frozen_next b1 (cell_next b0 (c0 0)) (frozen_next b0 (c0 0) (by unfold World.frozen?; rw [hn0]; rfl)), frozen_next b1 (cell_next b0 (c0 1)) (frozen_next b0 (c0 1) (by unfold World.frozen?; rw [hn0]; rfl)),
    frozen_next b1 (c1 0) (by unfold World.frozen?; rw [hn1]; rfl), frozen_next b1 (c1 1) (by unfold World.frozen?; rw [hn1]; rfl)⟩
theorem Sl.setCell_not {w : World} {A : Option Addr} {xs : List Nat} (h : Sl w A xs) {p : Addr} {v : Value} (hc : w.cell? p = some v) (hv : ∀ z, v ≠ .int .u64 z) (u : Value) : Sl (w.setCell p u) A xs := by
  rcases h with h | ⟨b, o, e, h⟩
  · exact .inl h
  · refine .inr ⟨b, o, e, by rw [setCell_size]; exact h.1, fun j hj => ?_⟩
    have h1 := h.2 j hj
    rw [World.cell?_setCell_other _ _ _ _ (by
      rintro rfl
      rw [hc] at h1
      exact hv _ (Option.some.inj h1))]
    exact h1
theorem Sl.store2 {w : World} {A : Option Addr} {xs : List Nat} (h : Sl w A xs) {g : Nat} {e : Bool} {B : Option Addr} {n c : Nat} (h0 : w.cell? ⟨g, 0, none⟩ = some (.bool e)) (h1 : w.cell? ⟨g, 1, none⟩ = some (.slice B n c)) (u v : Value) : Sl ((w.setCell ⟨g, 0, none⟩ u).setCell ⟨g, 1, none⟩ v) A xs := by
  refine (h.setCell_not h0 (fun z => by intro k; cases k) u).setCell_not (v := .slice B n c) ?_ (fun z => by intro k; cases k) v
  rw [World.cell?_setCell_other _ _ _ _ (by intro k; injection k with _ k _; cases k)]
  exact h1
theorem Below.store2 {w w' : World} (b : Below w.heap.size w w') {g : Nat} (hg : w.heap.size ≤ g) (u v : Value) : Below w.heap.size w ((w'.setCell ⟨g, 0, none⟩ u).setCell ⟨g, 1, none⟩ v) := (b.setCell hg _).setCell hg _
def Bx2 (h : Nat) (s : Bool) (A : Option Addr) (n c : Nat) (t : Bool) (B : Option Addr) (m d : Nat) (w : World) : Prop :=
  w.cell? ⟨h, 0, none⟩ = some (.bool s) ∧ w.cell? ⟨h, 1, none⟩ = some (.slice A n c) ∧ w.cell? ⟨h + 1, 0, none⟩ = some (.bool t) ∧ w.cell? ⟨h + 1, 1, none⟩ = some (.slice B m d)
theorem Bx2.next {h : Nat} {s : Bool} {A : Option Addr} {n c : Nat} {t : Bool} {B : Option Addr} {m d : Nat} {w w' : World} (x : Bx2 h s A n c t B m d w) (hb : Below w.heap.size w w') : Bx2 h s A n c t B m d w' := by
  obtain ⟨h1, h2, h3, h4⟩ := x
  exact ⟨cell_next hb h1, cell_next hb h2, cell_next hb h3, cell_next hb h4⟩
theorem Bx2.start (s : Bool) (A : Option Addr) (n c : Nat) (t : Bool) (B : Option Addr) (m d : Nat) (w : World) : Bx2 w.heap.size s A n c t B m d ((w.alloc (.cells #[.bool s, .slice A n c] 104)).alloc (.cells #[.bool t, .slice B m d] 104)) := by
  have b0 := bl_al (.refl _ (w.alloc (.cells #[.bool s, .slice A n c] 104))) (.cells #[.bool t, .slice B m d] 104)
  have e1 : (w.alloc (.cells #[.bool s, .slice A n c] 104)).heap.size = w.heap.size + 1 := size1 _ _
  have c0 := cell_new w #[.bool s, .slice A n c] 104
  have c1 := cell_new (w.alloc (.cells #[.bool s, .slice A n c] 104)) #[.bool t, .slice B m d] 104
  rw [e1] at c1
  exact ⟨cell_next b0 (c0 0), cell_next b0 (c0 1), c1 0, c1 1⟩

end Nt

end Go.Proofs.YtgimmmmpollkhaaGreat

namespace Go.Proofs.YtgimmmmpollkhaaGreat

open Go.RowKit

namespace Nt

end Nt

end Go.Proofs.YtgimmmmpollkhaaGreat

namespace Go.Proofs.YtgimmmmpollkhaaGreat

open Go.RowKit

namespace Nt

def IOne (w : World) (r : Bool × List Nat) (e : Ending) (w' : World) : Prop := ∃ A c, e = .returned (.agg #[.bool r.1, .slice A r.2.length c]) ∧ Sl w' A r.2 ∧ Below w.heap.size w w'
theorem IOne.mk {w w' : World} {r : Bool × List Nat} {s : Bool} {xs : List Nat} {n c : Nat} {A : Option Addr} (hr : r = (s, xs)) (hn : xs.length = n) (hs : Sl w' A xs) (hb : Below w.heap.size w w') : IOne w r (.returned (.agg #[.bool s, .slice A n c])) w' := by
  subst hr; subst hn; exact ⟨A, c, rfl, hs, hb⟩
theorem cell_store2 {w : World} {p : Addr} {x : Value} {g : Nat} {u v : Value} (h : w.cell? p = some x) (hp : p.block ≠ g) : ((w.setCell ⟨g, 0, none⟩ u).setCell ⟨g, 1, none⟩ v).cell? p = some x := by
  rw [World.cell?_setCell_other _ _ _ _ (by rintro rfl; exact hp rfl), World.cell?_setCell_other _ _ _ _ (by rintro rfl; exact hp rfl)]
  exact h
theorem S_store12 {w : World} {p1 p2 p3 p4 : Addr} {v1 v2 v3 v4 : Value} {g : Nat} {u v : Value} (h : w.cell? p1 = some v1 ∧ w.cell? p2 = some v2 ∧ w.cell? p3 = some v3 ∧ w.cell? p4 = some v4) (h1 : p1.block ≠ g) (h2 : p2.block ≠ g) (h3 : p3.block ≠ g) (h4 : p4.block ≠ g) :
    ((w.setCell ⟨g, 0, none⟩ u).setCell ⟨g, 1, none⟩ v).cell? p1 = some v1 ∧ ((w.setCell ⟨g, 0, none⟩ u).setCell ⟨g, 1, none⟩ v).cell? p2 = some v2 ∧ ((w.setCell ⟨g, 0, none⟩ u).setCell ⟨g, 1, none⟩ v).cell? p3 = some v3 ∧ ((w.setCell ⟨g, 0, none⟩ u).setCell ⟨g, 1, none⟩ v).cell? p4 = some v4 :=
  ⟨cell_store2 h.1 h1, cell_store2 h.2.1 h2, cell_store2 h.2.2.1 h3, cell_store2 h.2.2.2 h4⟩
theorem Bx3.drew {h : Nat} {s : Bool} {A : Option Addr} {n c : Nat} {t : Bool} {B : Option Addr} {m d : Nat} {w : World} (x : Bx3 h s A n c t B m d w) : Bx3 h s A n c t B m d w.drew := x
theorem S_next12 {w w' : World} (hb : Below w.heap.size w w') {p1 p2 p3 p4 : Addr} {v1 v2 v3 v4 : Value} (h : w.cell? p1 = some v1 ∧ w.cell? p2 = some v2 ∧ w.cell? p3 = some v3 ∧ w.cell? p4 = some v4) :
    w'.cell? p1 = some v1 ∧ w'.cell? p2 = some v2 ∧ w'.cell? p3 = some v3 ∧ w'.cell? p4 = some v4 := ⟨cell_next hb h.1, cell_next hb h.2.1, cell_next hb h.2.2.1, cell_next hb h.2.2.2⟩

end Nt

end Go.Proofs.YtgimmmmpollkhaaGreat

namespace Go.Proofs.YtgimmmmpollkhaaGreat

open Go.RowKit

namespace Nt

def mkI (z : Int) : Bool × List Nat := (isg z, idg z)
theorem idg_one {z : Int} (h : z ≠ 0) (h1 : z.natAbs < LB) : idg z = [z.natAbs] := digs1 h1 (by omega)
theorem cells2 (w : World) (u v : Value) (t : TypeId) : (w.alloc (.cells #[u, v] t)).cell? ⟨w.heap.size, 0, none⟩ = some u ∧ (w.alloc (.cells #[u, v] t)).cell? ⟨w.heap.size, 1, none⟩ = some v ∧ (w.alloc (.cells #[u, v] t)).frozen? ⟨w.heap.size, 0, none⟩ = false ∧ (w.alloc (.cells #[u, v] t)).frozen? ⟨w.heap.size, 1, none⟩ = false := by
  have hn := heap_alloc_new w (.cells #[u, v] t)
  exact ⟨cell_new _ _ _ 0, cell_new _ _ _ 1, by unfold World.frozen?; rw [hn]; rfl, by unfold World.frozen?; rw [hn]; rfl⟩
theorem neg_wrap {z : Int} (h : z < 0) (h1 : -9223372036854775808 ≤ z) : IntKind.u64.wrap (-IntKind.u64.wrap z) = ((z.natAbs : Nat) : Int) := by
  rw [IntKind.wrap_u64, IntKind.wrap_u64]; omega

set_option maxRecDepth 100000 in
set_option maxHeartbeats 1000000 in
theorem ofI_any (z : Int) (w : World) (h1 : -9223372036854775808 ≤ z) (h2 : z ≤ 9223372036854775807) :
    Calls Tryz.prog 111 #[.int .i64 z] w (IOne w (mkI z)) := by
  rcases Int.lt_trichotomy z 0 with h | h | h
  · have E := hide (show mkI z = (true, [z.natAbs]) by unfold mkI; rw [idg_one (by omega) (by rw [LB_eq]; omega)]; unfold isg; rw [decide_eq_true h])
    have h0 : ¬ 0 ≤ z := by omega
    obtain ⟨x1, x2, x3, x4⟩ := cells2 w (.bool false) (.slice none 0 0) 104
    go_enter Tryz.func111, Tryz.ntmps111
    go_wp2
    refine bodyPost_ret (v := .agg #[.bool true, .slice (some ⟨w.heap.size + 1, 0, none⟩) 1 1]) (by simp [results, Tryz.results111, go_sem]) rfl (IOne.mk E.out rfl ?_ (bl_al (bl_al (.refl _ _) _) _))
    rw [neg_wrap h h1]
    exact litSl _ _ [z.natAbs] rfl (size1 _ _)
  · subst h
    have E := hide (show mkI 0 = (false, []) by unfold mkI isg idg; rw [show (0 : Int).natAbs = 0 from rfl, digs_zero]; rfl)
    have O := hide (fun W => of_no 0 (Int.le_refl 0) W)
    have X := hide (cells2 w (.bool false) (.slice none 0 0) 104)
    go_enter Tryz.func111, Tryz.ntmps111
    go_wp2_with (go_at_call 136; (with_reducible refine (O.out _).mono ?_); rintro e w1 ⟨A3, c3, rfl, r3, hb⟩; have x1 := cell_next hb X.out.1; have x2 := cell_next hb X.out.2.1; have x3 := frozen_next hb X.out.1 X.out.2.2.1; have x4 := frozen_next hb X.out.2.1 X.out.2.2.2; have s3 := hide r3.sl; have b1 := bl_one hb; clear r3 hb)
    exact bodyPost_ret (v := .agg #[.bool false, .slice A3 0 c3]) (by simp [results, Tryz.results111, go_sem, x1, x2]) rfl (IOne.mk E.out rfl (s3.out.store2 x1 x2 _ _) (Below.store2 b1 (Nat.le_refl _) _ _))
  · obtain ⟨n, rfl⟩ : ∃ n : Nat, z = (n : Int) := ⟨z.toNat, by omega⟩
    have E := hide (show mkI (n : Int) = (false, [n]) by unfold mkI; rw [idg_one (by omega) (by rw [LB_eq]; omega), Int.natAbs_natCast]; unfold isg; rw [decide_eq_false (by omega)])
    have O := hide (fun W => of_any n (by omega) (by omega) W)
    have X := hide (cells2 w (.bool false) (.slice none 0 0) 104)
    go_enter Tryz.func111, Tryz.ntmps111
    go_wp2_with (go_at_call 136; (with_reducible refine (O.out _).mono ?_); rintro e w1 ⟨A3, c3, rfl, r3, hb⟩; have x1 := cell_next hb X.out.1; have x2 := cell_next hb X.out.2.1; have x3 := frozen_next hb X.out.1 X.out.2.2.1; have x4 := frozen_next hb X.out.2.1 X.out.2.2.2; have s3 := hide r3.sl; have b1 := bl_one hb; clear r3 hb)
    exact bodyPost_ret (v := .agg #[.bool false, .slice A3 1 c3]) (by simp [results, Tryz.results111, go_sem, x1, x2]) rfl (IOne.mk E.out rfl (s3.out.store2 x1 x2 _ _) (Below.store2 b1 (Nat.le_refl _) _ _))
def Rc (g : Nat) (w : World) : Prop := w.cell? ⟨g, 0, none⟩ = some (.bool false) ∧ w.cell? ⟨g, 1, none⟩ = some (.slice none 0 0) ∧ w.frozen? ⟨g, 0, none⟩ = false ∧ w.frozen? ⟨g, 1, none⟩ = false
theorem Rc.next {g : Nat} {w w' : World} (x : Rc g w) (hb : Below w.heap.size w w') : Rc g w' := ⟨cell_next hb x.1, cell_next hb x.2.1, frozen_next hb x.1 x.2.2.1, frozen_next hb x.2.1 x.2.2.2⟩
theorem Rc.drew {g : Nat} {w : World} (x : Rc g w) : Rc g w.drew := x
theorem Rc.start (w : World) : Rc w.heap.size (w.alloc (.cells #[.bool false, .slice none 0 0] 104)) := cells2 w _ _ _
theorem Rc.store {g k : Nat} {w : World} (x : Rc g w) (hne : g ≠ k) (u v : Value) : Rc g ((w.setCell ⟨k, 0, none⟩ u).setCell ⟨k, 1, none⟩ v) :=
  ⟨cell_store2 x.1 hne, cell_store2 x.2.1 hne, by rw [World.frozen?_setCell, World.frozen?_setCell]; exact x.2.2.1, by rw [World.frozen?_setCell, World.frozen?_setCell]; exact x.2.2.2⟩
end Nt

end Go.Proofs.YtgimmmmpollkhaaGreat
