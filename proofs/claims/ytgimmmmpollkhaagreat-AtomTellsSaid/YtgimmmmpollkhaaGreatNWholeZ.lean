
/-
  The law's 'awake': what the document fixes.
  The reference's TextNat.
  Package whole: Parse, Text.
  The reference's SameInt; the second law's same.
  Package whole: nextBelow, Div.
  The second law's awake.
  Package whole in numbers.
  Whole numbers' quotients and rests, in numbers; a text is read back.
-/
import Derived.Test.YtgimmmmpollkhaaGreatNOf
import Derived.Test.YtgimmmmpollkhaaGreatNBl
import Derived.Test.YtgimmmmpollkhaaGreatNParse2
import Derived.Test.YtgimmmmpollkhaaGreatNText2
import Derived.Test.YtgimmmmpollkhaaGreatNRefAdd
import Derived.Laws.IdiomStrings
import Derived.Test.YtgimmmmpollkhaaGreatNWholeA
import Derived.Test.YtgimmmmpollkhaaGreatNLongZ
import Derived.RegionTactic
import Derived.ChangeAlike
namespace Go.Proofs.YtgimmmmpollkhaaGreat

open Go.RowKit

namespace Nt

end Nt

end Go.Proofs.YtgimmmmpollkhaaGreat

namespace Go.Proofs.YtgimmmmpollkhaaGreat

open Go.RowKit

namespace Nt

theorem dec_step {v : Nat} (h : 10 ≤ v) : Lib.decDigits v = Lib.decDigits (v / 10) ++ [UInt8.ofNat (48 + v % 10)] := by
  rw [Lib.decDigits, dif_neg (by omega)]
theorem dec_last {v : Nat} (h : v < 10) : Lib.decDigits v = [UInt8.ofNat (48 + v % 10)] := by
  rw [Lib.decDigits_one h, Nat.mod_eq_of_lt h]

def TxInv (x v : Nat) (t : List UInt8) : Prop := (v = 0 ∧ t = Lib.decDigits x) ∨ (0 < v ∧ Lib.decDigits v ++ t = Lib.decDigits x)
theorem TxInv.step {x v : Nat} {t : List UInt8} (hv : 0 < v) (h : TxInv x v t) : TxInv x (v / 10) (UInt8.ofNat (48 + v % 10) :: t) := by
  rcases h with ⟨h, _⟩ | ⟨_, h⟩
  · omega
  · by_cases h10 : v < 10
    · rw [dec_last h10] at h
      exact .inl ⟨by omega, h⟩
    · rw [dec_step (by omega), List.append_assoc] at h
      exact .inr ⟨by omega, h⟩

end Nt

end Go.Proofs.YtgimmmmpollkhaaGreat

namespace Go.Proofs.YtgimmmmpollkhaaGreat

open Go.RowKit

namespace Nt

end Nt

end Go.Proofs.YtgimmmmpollkhaaGreat

namespace Go.Proofs.YtgimmmmpollkhaaGreat

open Go.RowKit

namespace Nt

end Nt

end Go.Proofs.YtgimmmmpollkhaaGreat

namespace Go.Proofs.YtgimmmmpollkhaaGreat

open Go.RowKit

namespace Nt

theorem validB_dg {n : Nat} (h : n < LB ^ 64) : validB (digs n) = true := validB_iff.2 ⟨digs_64 h, norm_digs n⟩
def IThree (w : World) (r : (Bool × List Nat) × (Bool × List Nat) × Nat) (e : Ending) (w' : World) : Prop := ∃ A c B d, e = .returned (.tuple #[.agg #[.bool r.1.1, .slice A r.1.2.length c], .agg #[.bool r.2.1.1, .slice B r.2.1.2.length d], .int .i64 (r.2.2 : Int)]) ∧ Sl w' A r.1.2 ∧ Sl w' B r.2.1.2 ∧ Below w.heap.size w w'
theorem IThree.mk {w w' : World} {r : (Bool × List Nat) × (Bool × List Nat) × Nat} {s t : Bool} {xs ys : List Nat} {n m k c d : Nat} {A B : Option Addr} (hr : r = ((s, xs), (t, ys), k)) (hn : xs.length = n) (hm : ys.length = m) (hs : Sl w' A xs) (ht : Sl w' B ys) (hb : Below w.heap.size w w') :
    IThree w r (.returned (.tuple #[.agg #[.bool s, .slice A n c], .agg #[.bool t, .slice B m d], .int .i64 (k : Int)])) w' := by
  subst hr; subst hn; subst hm; exact ⟨A, c, B, d, rfl, hs, ht, hb⟩
theorem Bx2.drew {h : Nat} {s : Bool} {A : Option Addr} {n c : Nat} {t : Bool} {B : Option Addr} {m d : Nat} {w : World} (x : Bx2 h s A n c t B m d w) : Bx2 h s A n c t B m d w.drew := x
def Bx4 (h : Nat) (s : Bool) (A : Option Addr) (n c : Nat) (t : Bool) (B : Option Addr) (m d : Nat) (w : World) : Prop := Bx2 h s A n c t B m d w ∧ Rc (h + 1 + 1) w ∧ Rc (h + 1 + 1 + 1) w
theorem Bx4.next {h : Nat} {s : Bool} {A : Option Addr} {n c : Nat} {t : Bool} {B : Option Addr} {m d : Nat} {w w' : World} (x : Bx4 h s A n c t B m d w) (hb : Below w.heap.size w w') : Bx4 h s A n c t B m d w' := ⟨x.1.next hb, x.2.1.next hb, x.2.2.next hb⟩
theorem Bx4.drew {h : Nat} {s : Bool} {A : Option Addr} {n c : Nat} {t : Bool} {B : Option Addr} {m d : Nat} {w : World} (x : Bx4 h s A n c t B m d w) : Bx4 h s A n c t B m d w.drew := x
theorem Bx4.start (s : Bool) (A : Option Addr) (n c : Nat) (t : Bool) (B : Option Addr) (m d : Nat) (w : World) : Bx4 w.heap.size s A n c t B m d ((((w.alloc (.cells #[.bool s, .slice A n c] 104)).alloc (.cells #[.bool t, .slice B m d] 104)).alloc (.cells #[.bool false, .slice none 0 0] 104)).alloc (.cells #[.bool false, .slice none 0 0] 104)) := by
  have b0 := Bx2.start s A n c t B m d w
  have e2 : ((w.alloc (.cells #[.bool s, .slice A n c] 104)).alloc (.cells #[.bool t, .slice B m d] 104)).heap.size = w.heap.size + 1 + 1 := by rw [size1, size1]
  generalize ((w.alloc (.cells #[.bool s, .slice A n c] 104)).alloc (.cells #[.bool t, .slice B m d] 104)) = W at *
  have r1 := Rc.start W
  have e3 : (W.alloc (.cells #[.bool false, .slice none 0 0] 104)).heap.size = w.heap.size + 1 + 1 + 1 := by rw [size1, e2]
  have r2 := Rc.start (W.alloc (.cells #[.bool false, .slice none 0 0] 104))
  have g1 := bl_al (.refl _ W) (.cells #[.bool false, .slice none 0 0] 104)
  have g2 := bl_al (.refl _ (W.alloc (.cells #[.bool false, .slice none 0 0] 104))) (.cells #[.bool false, .slice none 0 0] 104)
  rw [e2] at r1
  rw [e3] at r2
  exact ⟨(b0.next g1).next g2, r1.next g2, r2⟩
end Nt

end Go.Proofs.YtgimmmmpollkhaaGreat

namespace Go.Proofs.YtgimmmmpollkhaaGreat

open Go.RowKit

namespace Nt

def Ic (g : Nat) (s : Bool) (A : Option Addr) (n c : Nat) (w : World) : Prop := w.cell? ⟨g, 0, none⟩ = some (.bool s) ∧ w.cell? ⟨g, 1, none⟩ = some (.slice A n c)
theorem Ic.next {g : Nat} {s : Bool} {A : Option Addr} {n c : Nat} {w w' : World} (x : Ic g s A n c w) (hb : Below w.heap.size w w') : Ic g s A n c w' := ⟨cell_next hb x.1, cell_next hb x.2⟩
theorem Ic.new (s : Bool) (A : Option Addr) (n c : Nat) (w : World) : Ic w.heap.size s A n c (w.alloc (.cells #[.bool s, .slice A n c] 104)) := ⟨cell_new _ _ _ 0, cell_new _ _ _ 1⟩
theorem Ic.al {g : Nat} {s : Bool} {A : Option Addr} {n c : Nat} {w : World} (x : Ic g s A n c w) (y : Obj) : Ic g s A n c (w.alloc y) := x.next (bl_al (.refl _ _) y)
theorem Ic.new2 (s : Bool) (A : Option Addr) (n c : Nat) (w : World) (y : Obj) : Ic (w.heap.size + 1) s A n c ((w.alloc y).alloc (.cells #[.bool s, .slice A n c] 104)) := by
  have := Ic.new s A n c (w.alloc y)
  rwa [size1] at this

def Kz (w : World) (A3 B3 A7 A12 : Option Addr) (W : World) : Prop := Below w.heap.size w W ∧ Sl W A3 [4] ∧ Sl W B3 [1] ∧ Sl W A7 [] ∧ Sl W A12 [9223372036854775808]
theorem Kz.drew {w : World} {A3 B3 A7 A12 : Option Addr} {W : World} (k : Kz w A3 B3 A7 A12 W) : Kz w A3 B3 A7 A12 W.drew := ⟨k.1.drew, k.2⟩
theorem Kz.next {w : World} {A3 B3 A7 A12 : Option Addr} {W W' : World} (k : Kz w A3 B3 A7 A12 W) (hb : Below W.heap.size W W') : Kz w A3 B3 A7 A12 W' := ⟨bl_trans k.1 hb, bl_keeps hb _ _ k.2.1, bl_keeps hb _ _ k.2.2.1, bl_keeps hb _ _ k.2.2.2.1, bl_keeps hb _ _ k.2.2.2.2⟩
theorem Kz.q0 {w : World} {A3 B3 A7 A12 : Option Addr} {W : World} (k : Kz w A3 B3 A7 A12 W) : Below w.heap.size w W := k.1
theorem Kz.q1 {w : World} {A3 B3 A7 A12 : Option Addr} {W : World} (k : Kz w A3 B3 A7 A12 W) : Sl W A3 [4] := k.2.1
theorem Kz.q2 {w : World} {A3 B3 A7 A12 : Option Addr} {W : World} (k : Kz w A3 B3 A7 A12 W) : Sl W B3 [1] := k.2.2.1
theorem Kz.q3 {w : World} {A3 B3 A7 A12 : Option Addr} {W : World} (k : Kz w A3 B3 A7 A12 W) : Sl W A7 [] := k.2.2.2.1
theorem Kz.q4 {w : World} {A3 B3 A7 A12 : Option Addr} {W : World} (k : Kz w A3 B3 A7 A12 W) : Sl W A12 [9223372036854775808] := k.2.2.2.2

end Nt

end Go.Proofs.YtgimmmmpollkhaaGreat

namespace Go.Proofs.YtgimmmmpollkhaaGreat

open Go.RowKit

namespace Nt

theorem validI_num {x : Int} (h : x.natAbs < LB ^ 64) : validI (isg x) (idg x) = true := by
  refine validI_iff.2 ⟨validB_dg h, fun hs => ?_⟩
  unfold idg
  rw [digs_len_pos]
  have : x < 0 := by unfold isg at hs; simpa using hs
  omega
theorem idg_len {x : Int} (h : x.natAbs < LB ^ 64) : (idg x).length ≤ 64 := length_digs_le.2 h
theorem limbs_idg (x : Int) : Limbs (idg x) := limbs_digs _
theorem sgnISp_num {x : Int} (hx : x.natAbs < LB ^ 64) : sgnISp (isg x) (idg x) = cmpZ x 0 := by
  unfold sgnISp; rw [validI_num hx, ival_mk]; rfl
section

variable (A B : Option Addr) (n m c d : Nat) (x y : Int) (w : World) (hn : (idg x).length = n) (hm : (idg y).length = m) (sx : Sl w A (idg x)) (sy : Sl w B (idg y)) (hx : x.natAbs < LB ^ 64) (hy : y.natAbs < LB ^ 64)

include hn hm sx sy hx hy
end

section

variable (A : Option Addr) (n c : Nat) (x : Int) (w : World) (hn : (idg x).length = n) (sx : Sl w A (idg x)) (hx : x.natAbs < LB ^ 64)

include hn sx hx
theorem signI_num (k : Int) (hk : cmpZ x 0 = k) : Calls Tryz.prog 117 #[.agg #[.bool (isg x), .slice A n c]] w fun e w' => e = .returned (.int .i64 k) ∧ Below w.heap.size w w' := by
  subst hn hk
  have := signI_any (isg x) A c (idg x) w sx (limbs_idg x) (Nat.le_trans (idg_len hx) (by decide))
  rwa [sgnISp_num hx] at this
end
end Nt

end Go.Proofs.YtgimmmmpollkhaaGreat

namespace Go.Proofs.YtgimmmmpollkhaaGreat

open Go.RowKit

namespace Nt

end Nt

end Go.Proofs.YtgimmmmpollkhaaGreat
