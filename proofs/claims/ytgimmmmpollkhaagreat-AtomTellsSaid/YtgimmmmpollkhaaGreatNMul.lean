
/-
  limbs.Mul, nat.Mul.
-/
import Derived.Test.YtgimmmmpollkhaaGreatNSub
import Derived.Test.YtgimmmmpollkhaaGreatNMath4
namespace Go.Proofs.YtgimmmmpollkhaaGreat

open Go.RowKit

namespace Nt

def Fits (w : World) (most v : Nat) (e : Ending) (w' : World) : Prop :=
  (v < LB ^ most ∧ ∃ g cap, e = .returned (.tuple #[.slice (some ⟨g, 0, none⟩) (digs v).length cap, .bool true]) ∧ Own w' w.heap.size g cap (digs v) ∧ Below w.heap.size w w') ∨
  (LB ^ most ≤ v ∧ e = .returned (.tuple #[.slice none 0 0, .bool false]) ∧ Below w.heap.size w w')
theorem Fits.yes {w w' : World} {most v g n cap : Nat} {xs : List Nat} (h : v < LB ^ most) (e : digs v = xs) (hn : xs.length = n) (ho : Own w' w.heap.size g cap xs) (hb : Below w.heap.size w w') : Fits w most v (.returned (.tuple #[.slice (some ⟨g, 0, none⟩) n cap, .bool true])) w' := by
  subst e hn; exact .inl ⟨h, g, cap, rfl, ho, hb⟩
theorem Fits.no {w w' : World} {most v : Nat} (h : LB ^ most ≤ v) (hb : Below w.heap.size w w') : Fits w most v (.returned (.tuple #[.slice none 0 0, .bool false])) w' := .inr ⟨h, rfl, hb⟩

def MulBig (most : Nat) (xs ys : List Nat) (w : World) (a' : Act) (w' : World) : Prop :=
  LB ^ most ≤ val xs * val ys ∧ Below w.heap.size w w' ∧ ∃ t0 t1 t2 t3 t4 t5 t6 t7 t8 t9 t10 t11 t12 t13 t14 t15 t16 t17 t18 t19 t20 t21 t22 t23 t24 t25 t26 t27 t28 t29 t30 t31 t32 t33 t34 t35 t36 t37 t38 t39 t40 t41 t42 t43 t44 t45 t46 t47 t48 t49 t50 t51 t52 t53 t54 t55 t56 t57 t58 t59 t60 t61 t62 t63 t64 t65 t66 t67 t68 t69 t70 t71 t72 t73 t74 t75 t76 t77 t78 : Value, a' = { tmps := #[t0, t1, t2, t3, t4, t5, t6, t7, t8, t9, t10, t11, t12, t13, t14, t15, t16, t17, t18, t19, t20, t21, t22, t23, t24, t25, t26, t27, t28, t29, t30, t31, t32, t33, t34, t35, t36, t37, t38, t39, t40, t41, t42, t43, t44, t45, t46, t47, t48, t49, t50, t51, t52, t53, t54, t55, t56, t57, t58, t59, t60, t61, t62, t63, t64, t65, t66, t67, t68, t69, t70, t71, t72, t73, t74, t75, t76, t77, t78], defers := [] }
theorem MulBig.mk {most : Nat} {xs ys : List Nat} {w w' : World} (h : LB ^ most ≤ val xs * val ys) (hb : Below w.heap.size w w') (t0 t1 t2 t3 t4 t5 t6 t7 t8 t9 t10 t11 t12 t13 t14 t15 t16 t17 t18 t19 t20 t21 t22 t23 t24 t25 t26 t27 t28 t29 t30 t31 t32 t33 t34 t35 t36 t37 t38 t39 t40 t41 t42 t43 t44 t45 t46 t47 t48 t49 t50 t51 t52 t53 t54 t55 t56 t57 t58 t59 t60 t61 t62 t63 t64 t65 t66 t67 t68 t69 t70 t71 t72 t73 t74 t75 t76 t77 t78 : Value) : MulBig most xs ys w { tmps := #[t0, t1, t2, t3, t4, t5, t6, t7, t8, t9, t10, t11, t12, t13, t14, t15, t16, t17, t18, t19, t20, t21, t22, t23, t24, t25, t26, t27, t28, t29, t30, t31, t32, t33, t34, t35, t36, t37, t38, t39, t40, t41, t42, t43, t44, t45, t46, t47, t48, t49, t50, t51, t52, t53, t54, t55, t56, t57, t58, t59, t60, t61, t62, t63, t64, t65, t66, t67, t68, t69, t70, t71, t72, t73, t74, t75, t76, t77, t78], defers := [] } w' :=
  ⟨h, hb, _, _, _, _, _, _, _, _, _, _, _, _, _, _, _, _, _, _, _, _, _, _, _, _, _, _, _, _, _, _, _, _, _, _, _, _, _, _, _, _, _, _, _, _, _, _, _, _, _, _, _, _, _, _, _, _, _, _, _, _, _, _, _, _, _, _, _, _, _, _, _, _, _, _, _, _, _, _, _, rfl⟩

set_option maxRecDepth 100000 in
set_option maxHeartbeats 1000000 in
theorem lmul_ok (A B : Option Addr) (c d most : Nat) (xs ys : List Nat) (w : World) (hx : Sl w A xs) (hy : Sl w B ys) (lx : Limbs xs) (ly : Limbs ys)
   (hl : xs.length ≤ 10000) (hl' : ys.length ≤ 10000) (hmo : most ≤ 100000) (hxm : xs.length ≤ most) (nx : Norm xs) (ny : Norm ys) (N : Nat) (hN : min (xs.length + ys.length) most = N) :
    Calls Tryz.prog 152 #[.slice A xs.length c, .slice B ys.length d, .int .i64 (most : Int)] w (Fits w most (val xs * val ys)) := by
  have hmk : ∀ W : World, (Instr.makeSlice 23 (.int .i64 (N : Int)) (.int .i64 (N : Int))).run Tryz.prog W = .ok (.slice (some ⟨W.heap.size, 0, none⟩) N N) (W.alloc (.cells (madeCells #[.int .u64 0] N) 119)) :=
    fun W => run_make_u64 .i64 .i64 N N (by omega) (by omega) W
  have hmn : ∀ ts t W, (Builtin.min_ ts t #[.int .i64 ((xs.length : Int) + (ys.length : Int)), .int .i64 (most : Int)]).run Tryz.prog W = .ok (.int .i64 (N : Int)) W := fun ts t W => by
    rw [run_min_int2]
    congr 2
    split <;> omega
  have nb : N ≤ 20000 := by omega
  have nm : N ≤ most := by omega
  have nx0 : xs.length ≤ N := by omega
  have n1 : N ≤ xs.length + ys.length := by omega
  have n2 : N = most ∨ N = xs.length + ys.length := by omega
  have H := hide hN
  clear hN
  go_enter Tryz.func152, Tryz.ntmps152
  go_wp2
  refine wp_scope_jumps 0 (MulBig most xs ys w) (fun _ _ => 0) rfl ?_ ?_
  · go_wp2
    have M := hide (Own.made (n := N) w (Nat.le_refl _) (Nat.le_refl N) (by unfold maxLen; omega))
    clear hmk hmn
    go_loopw [23] (fun i wr => ∃ k out, k ≤ xs.length ∧ i = .int .i64 (k : Nat) ∧ MulOut xs ys N k out ∧ Own wr w.heap.size w.heap.size N out ∧ Below w.heap.size w wr) (fun i _ => xs.length - (intOf i).toNat)
    case atStart =>
      have hm := M.out
      exact ⟨0, _, Nat.zero_le _, rfl, MulOut.zero _ _ _, hm, (Below.refl _ _).alloc (Nat.le_refl _) _⟩
    case round =>
      obtain ⟨i, out, hi, rfl, mo, ho, hb⟩ := hrel
      by_cases hlt : i < xs.length
      · obtain ⟨wo, rfl⟩ : ∃ wo : World, wo = wr := ⟨_, rfl⟩
        obtain ⟨b, o, rfl, ha0⟩ := hx.at_ (by omega)
        have hcx := (ha0.below hb ha0.lt).cell (j := i) (by omega)
        have ST := hide (mo.start)
        have OO := hide ho
        have BB := hide hb
        clear mo ho hb ha0
        go_wp2
        go_loopw [10, 30] (fun cy kk wr => ∃ k cc out, k ≤ ys.length ∧ i + k ≤ N ∧ kk = .int .i64 (k : Nat) ∧ cy = .int .u64 (cc : Nat) ∧ MulIn xs ys N i k cc out ∧ Own wr w.heap.size w.heap.size N out ∧ Below w.heap.size w wr) (fun _ kk _ => ys.length - (intOf kk).toNat)
        case atStart => exact ⟨0, 0, out, Nat.zero_le _, by omega, rfl, rfl, ST.out, OO.out, BB.out⟩
        case round =>
          obtain ⟨k, cc, out', hk, hikN, rfl, rfl, mi, ho, hb⟩ := hrel
          by_cases hk2 : k < ys.length
          · obtain ⟨b', o', rfl, ha0'⟩ := hy.at_ (by omega)
            have hcy := (ha0'.below hb ha0'.lt).cell (j := k) (by omega)
            by_cases hN : i + k < N
            · have hcell := ho.cell (j := i + k) (by rw [mi.1]; omega)
              have hfr := ho.frozen (i + k)
              have MX := hide (fun W => mulAdd_any (lim xs i) (lim ys k) (lim out' (i + k)) cc (lx.get i) (ly.get k) (mi.2.1.get (i + k)) mi.2.2.1 W)
              have S := hide (ho.set (i + k) (maLo (lim xs i) (lim ys k) (lim out' (i + k)) cc))
              have I := hide (mi.step lx ly hk2 hN)
              have BB' := hide hb
              have hne : ((i : Int) + (k : Int) == (N : Int)) = false := by simp; omega
              clear ha0' mi ho hb hcx
              go_wp2_with (go_at_call 160; (with_reducible refine (MX.out _).mono ?_); rintro ee w2 ⟨rfl, rfl⟩)
              go_roundw
              case rel => exact ⟨k + 1, _, _, by omega, by omega, by go_num, rfl, I.out, S.out, BB'.out.setCell (Nat.le_refl _) _⟩
              case measure => simp [intOf]; omega
            · have hne : ((i : Int) + (k : Int) == (N : Int)) = true := by simp; omega
              have BG := hide (show LB ^ most ≤ val xs * val ys from big_of_room nx ny hlt hk2 (by omega))
              have BB' := hide hb
              clear ha0' mi ho hb hcx
              go_wp2
              go_step3
              exact ⟨rfl, MulBig.mk BG.out BB'.out _ _ _ _ _ _ _ _ _ _ _ _ _ _ _ _ _ _ _ _ _ _ _ _ _ _ _ _ _ _ _ _ _ _ _ _ _ _ _ _ _ _ _ _ _ _ _ _ _ _ _ _ _ _ _ _ _ _ _ _ _ _ _ _ _ _ _ _ _ _ _ _ _ _ _ _ _ _ _⟩
          · obtain rfl : k = ys.length := by omega
            by_cases hc0 : cc = 0
            · subst hc0
              have I := hide (mi.done0)
              have BB' := hide hb
              have O' := hide ho
              clear mi ho hb hcx
              go_wp2
              go_roundw
              case rel => exact ⟨i + 1, _, by omega, by go_num, I.out, O'.out, BB'.out⟩
              case measure => simp [intOf]; omega
            · have hcne : ((cc : Int) == 0) = false := by simp; omega
              by_cases hN : i + ys.length < N
              · have hcell := ho.cell (j := i + ys.length) (by rw [mi.1]; omega)
                have hfr := ho.frozen (i + ys.length)
                have S := hide (ho.set (i + ys.length) cc)
                have I := hide (mi.done hN)
                have BB' := hide hb
                have hne : ((i : Int) + (ys.length : Int) == (N : Int)) = false := by simp; omega
                clear mi ho hb hcx hc0
                go_wp2
                go_roundw
                case rel => exact ⟨i + 1, _, by omega, by go_num, I.out, S.out, BB'.out.setCell (Nat.le_refl _) _⟩
                case measure => simp [intOf]; omega
              · have hne : ((i : Int) + (ys.length : Int) == (N : Int)) = true := by simp; omega
                have BG := hide (show LB ^ most ≤ val xs * val ys from big_of_carry mi hc0 (by omega))
                have BB' := hide hb
                clear mi ho hb hcx hc0
                go_wp2
                go_step3
                exact ⟨rfl, MulBig.mk BG.out BB'.out _ _ _ _ _ _ _ _ _ _ _ _ _ _ _ _ _ _ _ _ _ _ _ _ _ _ _ _ _ _ _ _ _ _ _ _ _ _ _ _ _ _ _ _ _ _ _ _ _ _ _ _ _ _ _ _ _ _ _ _ _ _ _ _ _ _ _ _ _ _ _ _ _ _ _ _ _ _ _⟩
      · obtain rfl : i = xs.length := by omega
        have E := hide (show val xs * val ys < LB ^ most from mo.fits nm)
        obtain ⟨hd, hL, hlen⟩ := mo.done
        have T := hide (trim_n _ N N out wr hlen ho.sl (Nat.le_refl _) (by omega))
        have D := hide hd
        have RR := hide ho.trim
        have BB := hide hb
        clear mo ho hb hd hL hlen
        go_wp2_with (go_at_call 149; (with_reducible refine (T.out).mono ?_); rintro ee w2 ⟨rfl, rfl⟩)
        simp only [Exit.jump]
        go_ret2
        exact Fits.yes E.out D.out rfl RR.out BB.out
  · rintro a' w' ⟨E, hb, t0, t1, t2, t3, t4, t5, t6, t7, t8, t9, t10, t11, t12, t13, t14, t15, t16, t17, t18, t19, t20, t21, t22, t23, t24, t25, t26, t27, t28, t29, t30, t31, t32, t33, t34, t35, t36, t37, t38, t39, t40, t41, t42, t43, t44, t45, t46, t47, t48, t49, t50, t51, t52, t53, t54, t55, t56, t57, t58, t59, t60, t61, t62, t63, t64, t65, t66, t67, t68, t69, t70, t71, t72, t73, t74, t75, t76, t77, t78, rfl⟩
    have E := hide E
    have BB := hide hb
    clear hb hmk hmn
    go_wp2
    simp only [Exit.jump]
    go_ret2
    exact Fits.no E.out BB.out

theorem lmul_any (A B : Option Addr) (c d most : Nat) (xs ys : List Nat) (w : World) (hx : Sl w A xs) (hy : Sl w B ys) (lx : Limbs xs) (ly : Limbs ys)
   (hl : xs.length ≤ 10000) (hl' : ys.length ≤ 10000) (hmo : most ≤ 100000) (hxm : xs.length ≤ most) (nx : Norm xs) (ny : Norm ys) :
    Calls Tryz.prog 152 #[.slice A xs.length c, .slice B ys.length d, .int .i64 (most : Int)] w (Fits w most (val xs * val ys)) :=
  lmul_ok A B c d most xs ys w hx hy lx ly hl hl' hmo hxm nx ny _ rfl

end Nt

end Go.Proofs.YtgimmmmpollkhaaGreat
